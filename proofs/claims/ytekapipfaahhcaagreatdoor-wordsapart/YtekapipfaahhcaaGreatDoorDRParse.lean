import Derived.Test.YtekapipfaahhcaaGreatDoorDRefFace
import Derived.Test.YtekapipfaahhcaaGreatDoorDParse
import Derived.OwnWalk
namespace Go.Proofs.YtekapipfaahhcaaGreatDoor
open Go.RowKit

theorem infoInt : (Tryz.prog.info? 3).map (fun i => (i.zero, i.size, i.bytes)) = some (some (.int .i64 0), 1, 8) := by kernel_rfl
abbrev iv (z : Int) : Value := .int .i64 z

/-- numbers in a row of memory -/
theorem row_of_owns {w : World} {base : Nat} {v : Value} {a b : Int} (h : w.ownsRow base 3 1 v 2 [iv a, iv b]) : ∃ g cap, v = .slice (some ⟨g, 0, none⟩) 2 cap ∧ w.cell? ⟨g, 0, none⟩ = some (iv a) ∧ w.cell? ⟨g, 1, none⟩ = some (iv b) := by
  obtain ⟨hl, h | ⟨g, cap, cur, rfl, hg, hh, hn, hm, hs, ht⟩⟩ := h
  · exact absurd h.2 (by decide)
  · have e : ∀ i, i < 2 → cur.toList[i]? = [iv a, iv b][i]? := by
      intro i hi
      have h1 : (cur.toList.take (2 * 1))[i]? = cur.toList[i]? := by rw [List.getElem?_take, if_pos (by omega)]
      rw [← h1, ht]
    refine ⟨g, cap, rfl, ?_, ?_⟩
    · have := e 0 (by omega)
      simp only [World.cell?, hh]
      simpa using this
    · have := e 1 (by omega)
      simp only [World.cell?, hh]
      simpa using this

/-- what has been read ahead of place i -/
def pv (s : ByteArray) (i : Nat) : List Int × Int :=
  if i ≤ 4 then ([], dval (fun j => cc s (0 + j)) i)
  else if i ≤ 7 then ([dval (fun j => cc s (0 + j)) (4 - 0)], dval (fun j => cc s (5 + j)) (i - 5))
  else ([dval (fun j => cc s (0 + j)) (4 - 0), dval (fun j => cc s (5 + j)) (7 - 5)], dval (fun j => cc s (8 + j)) (i - 8))
theorem pv_digit (s : ByteArray) (i : Nat) (h : i < 10) (h4 : ¬ (i = 4 ∨ i = 7)) : pv s (i + 1) = ((pv s i).1, (pv s i).2 * 10 + cc s i) := by
  have : i = 0 ∨ i = 1 ∨ i = 2 ∨ i = 3 ∨ i = 5 ∨ i = 6 ∨ i = 8 ∨ i = 9 := by omega
  rcases this with rfl | rfl | rfl | rfl | rfl | rfl | rfl | rfl <;> simp [pv, dval]
theorem pv_sign (s : ByteArray) (i : Nat) (h4 : i = 4 ∨ i = 7) : pv s (i + 1) = ((pv s i).1 ++ [(pv s i).2], 0) := by
  rcases h4 with rfl | rfl <;> simp [pv, dval]
theorem pv_len (s : ByteArray) (i : Nat) : (pv s i).1.length ≤ 2 := by
  unfold pv
  split
  · simp
  · split <;> simp
theorem ck_sign {i : Nat} {c : Int} (h : ck i c = true) (hi : i = 4 ∨ i = 7) : c = 45 := by
  unfold ck at h
  rw [if_pos hi] at h
  exact of_decide_eq_true h
theorem ck_cc {s : ByteArray} {i : Nat} (hs : i < s.size) (h : ck i s[i].toNat = true) (hi : ¬ (i = 4 ∨ i = 7)) : ∃ z, Hid (z = cc s i) ∧ (s[i].toNat : Int) = 48 + z ∧ 0 ≤ z ∧ z ≤ 9 := by
  have := ck_digit h hi
  refine ⟨cc s i, rfl, ?_⟩
  unfold cc
  rw [dif_pos hs]
  omega
theorem ck_bad {i : Nat} {c : Int} (h : ck i c = false) (hi : ¬ (i = 4 ∨ i = 7)) : c = 45 ∨ (¬ c = 45 ∧ c < 48) ∨ (¬ c = 45 ∧ ¬ c < 48 ∧ 57 < c) := by
  unfold ck at h
  rw [if_neg hi] at h
  have := of_decide_eq_false h
  omega
theorem ck_badsign {i : Nat} {c : Int} (h : ck i c = false) (hi : i = 4 ∨ i = 7) : ¬ c = 45 := by
  unfold ck at h
  rw [if_pos hi] at h
  exact of_decide_eq_false h

set_option maxRecDepth 4000 in
set_option maxHeartbeats 8000000 in
theorem rparse_any (s : ByteArray) (r : Nat) (hr : r ≤ 10) (hs : r ≤ s.size) (hok : ∀ i (h : i < s.size), i < r → ck i s[i].toNat = true) (hend : r = 10 ∨ r = s.size ∨ ∃ h : r < s.size, ck r s[r].toNat = false) (V A E : Int) (hV : Hid (((r < 10 ∨ 10 < s.size) ∧ V = 0 ∧ A = r ∧ E = 22) ∨ (r = 10 ∧ s.size = 10 ∧ (V, E) = D.num (dval (fun i => cc s (0 + i)) (4 - 0)) (dval (fun i => cc s (5 + i)) (7 - 5)) (dval (fun i => cc s (8 + i)) (10 - 8)) ∧ A = if E = 0 then 10 else 0))) (w : World) :
    Calls Tryz.prog 132 #[.string s] w fun en w' => en = .returned (.tuple #[.int .i64 V, .int .i64 A, .int .i64 E]) ∧ Below w.heap.size w w' := by
  obtain ⟨i0, hi0, hz0, hz1, hz2⟩ := info_parts infoInt
  go_enter Tryz.func132, Tryz.ntmps132
  go_wp2
  go_loopw [5, 6, 7] (fun y p x wr => ∃ (i : Nat) (v : Int) (P : List Int), x = .int .i64 i ∧ i ≤ r ∧ y = .int .i64 v ∧ Hid (0 ≤ v ∧ v < 10 ^ i) ∧ Hid ((P, v) = pv s i) ∧ P.length ≤ 2 ∧ wr.ownsRow w.heap.size 3 1 p P.length (P.map iv) ∧ Below w.heap.size w wr) (fun _ _ x _ => 10 - (intOf x).toNat)
  case atStart => exact ⟨0, 0, [], rfl, Nat.zero_le _, rfl, by unfold Hid; simp, rfl, by simp, World.ownsRow_nil _ _ _ _, Below.refl _ _⟩
  case round =>
    obtain ⟨i, v, P, rfl, hi, rfl, hv, hP, hlen, hown, hB⟩ := hrel
    by_cases h10 : i = 10
    · subst h10
      obtain rfl : r = 10 := by omega
      have hPe := hP.out
      simp only [pv] at hPe
      rw [if_neg (by omega), if_neg (by omega)] at hPe
      obtain ⟨rfl, rfl⟩ := Prod.mk.inj hPe
      have hV2 : (10 < s.size ∧ V = 0 ∧ A = 10 ∧ E = 22) ∨ (s.size = 10 ∧ Hid ((V, E) = D.num (dval (fun i => cc s (0 + i)) (4 - 0)) (dval (fun i => cc s (5 + i)) (7 - 5)) (dval (fun i => cc s (8 + i)) (10 - 8))) ∧ A = if E = 0 then 10 else 0) := by
        rcases hV.out with ⟨h1, h2, h3, h4⟩ | ⟨h1, h2, h3, h4⟩
        · exact .inl ⟨by omega, h2, by simpa using h3, h4⟩
        · exact .inr ⟨h2, h3, h4⟩
      clear hok hend hP hPe hV hv hlen
      generalize dval (fun i => cc s (0 + i)) (4 - 0) = Y at *
      generalize dval (fun i => cc s (5 + i)) (7 - 5) = M at *
      generalize dval (fun i => cc s (8 + i)) (10 - 8) = K at *
      obtain ⟨g, cap, rfl, hg0, hg1⟩ := row_of_owns hown
      clear hown
      rcases hV2 with ⟨hsz, rfl, rfl, rfl⟩ | ⟨hsz, hN, rfl⟩
      · have hsz2 : (10 : Int) < s.size := by omega
        go_wp2
        exact bodyPost_ret (v := .tuple #[.int .i64 0, .int .i64 10, .int .i64 22]) (by simp [results, Tryz.results132, go_sem]) rfl ⟨rfl, hB⟩
      · have hNn := fun W => rnumber_any Y M K W V E hN
        dsimp only [iv] at hg0 hg1
        have hv0 : E = 0 ∨ (E = 20 ∧ V = 0) ∨ (E = 21 ∧ V = 0) := by
          have h := hN.out
          unfold D.num at h
          split at h
          · obtain ⟨rfl, rfl⟩ := Prod.mk.inj h
            exact .inr (.inl ⟨rfl, rfl⟩)
          · split at h
            · obtain ⟨rfl, rfl⟩ := Prod.mk.inj h
              exact .inr (.inr ⟨rfl, rfl⟩)
            · exact .inl (Prod.mk.inj h).2
        clear hN
        rcases hv0 with rfl | ⟨rfl, rfl⟩ | ⟨rfl, rfl⟩
        · go_wp2
          go_quiet ((go_at_call 142; exact Calls.quiet_of_same (hNn _)))
          go_wp2
          exact bodyPost_ret (v := .tuple #[.int .i64 V, .int .i64 10, .int .i64 0]) (by simp [results, Tryz.results132, go_sem]) rfl ⟨by simp, below_drewN hB _⟩
        · go_wp2
          go_quiet ((go_at_call 142; exact Calls.quiet_of_same (hNn _)))
          go_wp2
          exact bodyPost_ret (v := .tuple #[.int .i64 0, .int .i64 0, .int .i64 20]) (by simp [results, Tryz.results132, go_sem]) rfl ⟨by simp, below_drewN hB _⟩
        · go_wp2
          go_quiet ((go_at_call 142; exact Calls.quiet_of_same (hNn _)))
          go_wp2
          exact bodyPost_ret (v := .tuple #[.int .i64 0, .int .i64 0, .int .i64 21]) (by simp [results, Tryz.results132, go_sem]) rfl ⟨by simp, below_drewN hB _⟩
    · have hi9 : i = 0 ∨ i = 1 ∨ i = 2 ∨ i = 3 ∨ i = 4 ∨ i = 5 ∨ i = 6 ∨ i = 7 ∨ i = 8 ∨ i = 9 := by omega
      by_cases hir : i = r
      · subst hir
        have hV2 : V = 0 ∧ A = i ∧ E = 22 := by
          rcases hV.out with ⟨h1, h2, h3, h4⟩ | ⟨h1, h2, h3, h4⟩
          · exact ⟨h2, h3, h4⟩
          · omega
        obtain ⟨rfl, rfl, rfl⟩ := hV2
        clear hV hP hv hown hlen
        by_cases hsz : i = s.size
        · have hsz2 : Hid (i = s.size) := hsz
          clear hok hend hsz
          rcases hi9 with rfl | rfl | rfl | rfl | rfl | rfl | rfl | rfl | rfl | rfl
          all_goals
            have hsz3 := hsz2.out.symm
            go_wp2
            exact bodyPost_ret (v := .tuple #[.int .i64 0, .int .i64 _, .int .i64 22]) (by simp [results, Tryz.results132, go_sem]) rfl ⟨rfl, hB⟩
        · obtain ⟨hlt, hck⟩ : ∃ h : i < s.size, ck i s[i].toNat = false := by
            rcases hend with h | h | h
            · exact absurd h h10
            · exact absurd h hsz
            · exact h
          have hne : ∀ z : Int, z = (i : Int) → z < (s.size : Int) := fun z hz => by omega
          clear hok hend
          have hcases : (i = 4 ∨ i = 7) ∨ ¬ (i = 4 ∨ i = 7) := by omega
          obtain ⟨c, hcc⟩ : ∃ c : Int, (s[i].toNat : Int) = c := ⟨_, rfl⟩
          rw [hcc] at hck
          rcases hcases with hsg | hsg
          · have hb := ck_badsign hck hsg
            clear hck hi9
            rcases hsg with rfl | rfl
            · have hn2 := hne 4 rfl
              clear hne
              go_wp2
              exact bodyPost_ret (v := .tuple #[.int .i64 0, .int .i64 4, .int .i64 22]) (by simp [results, Tryz.results132, go_sem]) rfl ⟨rfl, hB⟩
            · have hn2 := hne 7 rfl
              clear hne
              go_wp2
              exact bodyPost_ret (v := .tuple #[.int .i64 0, .int .i64 7, .int .i64 22]) (by simp [results, Tryz.results132, go_sem]) rfl ⟨rfl, hB⟩
          · have hb := ck_bad hck hsg
            have hi8 : i = 0 ∨ i = 1 ∨ i = 2 ∨ i = 3 ∨ i = 5 ∨ i = 6 ∨ i = 8 ∨ i = 9 := by omega
            clear hck hi9 hsg
            rcases hi8 with rfl | rfl | rfl | rfl | rfl | rfl | rfl | rfl
            · have hn2 := hne 0 rfl
              have hn3 : ¬ s.size = 0 := by omega
              clear hne
              rcases hb with rfl | ⟨b1, b2⟩ | ⟨b1, b2, b3⟩
              all_goals
                go_wp2
                exact bodyPost_ret (v := .tuple #[.int .i64 0, .int .i64 0, .int .i64 22]) (by simp [results, Tryz.results132, go_sem]) rfl ⟨rfl, hB⟩
            · have hn2 := hne 1 rfl
              clear hne
              rcases hb with rfl | ⟨b1, b2⟩ | ⟨b1, b2, b3⟩
              all_goals
                go_wp2
                exact bodyPost_ret (v := .tuple #[.int .i64 0, .int .i64 1, .int .i64 22]) (by simp [results, Tryz.results132, go_sem]) rfl ⟨rfl, hB⟩
            · have hn2 := hne 2 rfl
              clear hne
              rcases hb with rfl | ⟨b1, b2⟩ | ⟨b1, b2, b3⟩
              all_goals
                go_wp2
                exact bodyPost_ret (v := .tuple #[.int .i64 0, .int .i64 2, .int .i64 22]) (by simp [results, Tryz.results132, go_sem]) rfl ⟨rfl, hB⟩
            · have hn2 := hne 3 rfl
              clear hne
              rcases hb with rfl | ⟨b1, b2⟩ | ⟨b1, b2, b3⟩
              all_goals
                go_wp2
                exact bodyPost_ret (v := .tuple #[.int .i64 0, .int .i64 3, .int .i64 22]) (by simp [results, Tryz.results132, go_sem]) rfl ⟨rfl, hB⟩
            · have hn2 := hne 5 rfl
              clear hne
              rcases hb with rfl | ⟨b1, b2⟩ | ⟨b1, b2, b3⟩
              all_goals
                go_wp2
                exact bodyPost_ret (v := .tuple #[.int .i64 0, .int .i64 5, .int .i64 22]) (by simp [results, Tryz.results132, go_sem]) rfl ⟨rfl, hB⟩
            · have hn2 := hne 6 rfl
              clear hne
              rcases hb with rfl | ⟨b1, b2⟩ | ⟨b1, b2, b3⟩
              all_goals
                go_wp2
                exact bodyPost_ret (v := .tuple #[.int .i64 0, .int .i64 6, .int .i64 22]) (by simp [results, Tryz.results132, go_sem]) rfl ⟨rfl, hB⟩
            · have hn2 := hne 8 rfl
              clear hne
              rcases hb with rfl | ⟨b1, b2⟩ | ⟨b1, b2, b3⟩
              all_goals
                go_wp2
                exact bodyPost_ret (v := .tuple #[.int .i64 0, .int .i64 8, .int .i64 22]) (by simp [results, Tryz.results132, go_sem]) rfl ⟨rfl, hB⟩
            · have hn2 := hne 9 rfl
              clear hne
              rcases hb with rfl | ⟨b1, b2⟩ | ⟨b1, b2, b3⟩
              all_goals
                go_wp2
                exact bodyPost_ret (v := .tuple #[.int .i64 0, .int .i64 9, .int .i64 22]) (by simp [results, Tryz.results132, go_sem]) rfl ⟨rfl, hB⟩
      · have hck := hok i (by omega) (by omega)
        have hlt : i < s.size := by omega
        have hne : ∀ z : Int, z = (i : Int) → z < (s.size : Int) := fun z hz => by omega
        clear hok hend hV
        by_cases hsg : i = 4 ∨ i = 7
        · have hc45 := ck_sign hck hsg
          have hpn := pv_sign s i hsg
          rw [← hP.out] at hpn
          have hpn2 : Hid ((P ++ [v], (0 : Int)) = pv s (i + 1)) := hpn.symm
          have hl2 : (P ++ [v]).length ≤ 2 := by
            have := pv_len s (i + 1)
            rw [hpn] at this
            exact this
          have hvn : Hid ((0 : Int) ≤ 0 ∧ (0 : Int) < 10 ^ (i + 1)) := by
            unfold Hid
            exact ⟨by omega, Int.pow_pos (by omega)⟩
          clear hck hpn hP hv hi9
          rcases hsg with rfl | rfl
          · have hn2 := hne 4 rfl
            clear hne
            go_wp2_with (at_builtin; refine wpList_append_own _ rfl _ _ 25 rfl w.heap.size 3 i0 (.int .i64 0) 1 8 Tryz.underlying25 hi0 hz0 hz1 hz2 rfl (by decide) _ _ _ rfl (hown.alloc _) ⟨wr.heap.size, 0, none⟩ 1 1 [iv v] rfl rfl ?c1 ?c2 ?c3 ?c4 ?c5 ?_)
            case c1 =>
              intro j u hj
              match j, hj with
              | 0, hj => simp at hj; subst hj; simp [Addr.add]
            case c2 => intro u hu; simp at hu; subst hu; rfl
            case c3 => unfold maxLen; omega
            case c4 => omega
            case c5 => have := hB.size; simp; omega
            · intro v' w1 hown' hgrow _
              have hB1 : Below w.heap.size w w1 := (hB.alloc hB.size _).grown hgrow (by have := hB.size; simp; omega) (fun k hk => by
                obtain ⟨-, h | ⟨g, cap, cur, rfl, hg, -⟩⟩ := hown
                · rw [h.1] at hk; cases hk
                · cases hk; exact hg)
              clear hown hgrow
              go_wp2
              exact ⟨⟨5, 0, P ++ [v], rfl, by omega, rfl, hvn, hpn2, hl2, by simpa using hown', hB1⟩, by simp [intOf]⟩
          · have hn2 := hne 7 rfl
            clear hne
            go_wp2_with (at_builtin; refine wpList_append_own _ rfl _ _ 25 rfl w.heap.size 3 i0 (.int .i64 0) 1 8 Tryz.underlying25 hi0 hz0 hz1 hz2 rfl (by decide) _ _ _ rfl (hown.alloc _) ⟨wr.heap.size, 0, none⟩ 1 1 [iv v] rfl rfl ?c1 ?c2 ?c3 ?c4 ?c5 ?_)
            case c1 =>
              intro j u hj
              match j, hj with
              | 0, hj => simp at hj; subst hj; simp [Addr.add]
            case c2 => intro u hu; simp at hu; subst hu; rfl
            case c3 => unfold maxLen; omega
            case c4 => omega
            case c5 => have := hB.size; simp; omega
            · intro v' w1 hown' hgrow _
              have hB1 : Below w.heap.size w w1 := (hB.alloc hB.size _).grown hgrow (by have := hB.size; simp; omega) (fun k hk => by
                obtain ⟨-, h | ⟨g, cap, cur, rfl, hg, -⟩⟩ := hown
                · rw [h.1] at hk; cases hk
                · cases hk; exact hg)
              clear hown hgrow
              go_wp2
              exact ⟨⟨8, 0, P ++ [v], rfl, by omega, rfl, hvn, hpn2, hl2, by simpa using hown', hB1⟩, by simp [intOf]⟩
        · obtain ⟨z, hz, hcz, z0, z9⟩ := ck_cc hlt hck hsg
          have hpn := pv_digit s i (by omega) hsg
          rw [← hP.out, ← hz.out] at hpn
          have hpn2 : Hid ((P, v * 10 + z) = pv s (i + 1)) := hpn.symm
          have hpw : (10 : Int) ^ (i + 1) = 10 ^ i * 10 := Int.pow_succ _ _
          have hp9 : (10 : Int) ^ i ≤ 1000000000 := by
            have := Nat.pow_le_pow_right (n := 10) (by omega) (show i ≤ 9 by omega)
            have h9 : (10 : Int) ^ 9 = 1000000000 := by decide
            rw [← h9]
            exact_mod_cast this
          have hvb := hv.out
          have v0 : 0 ≤ v := hvb.1
          have v1 : v ≤ 1000000000 := by omega
          have hvn : Hid (0 ≤ v * 10 + z ∧ v * 10 + z < 10 ^ (i + 1)) := by unfold Hid; omega
          have hz45 : (48 + z == 45) = false := by simp; omega
          have e1 : wrap64 (10 * v) = 10 * v := wrap64_id (by omega) (by omega)
          have hz1' : ¬ 48 + z < 48 := by omega
          have hz2' : ¬ 57 < 48 + z := by omega
          clear hck hpn hpw hp9 hvb hz hP hv
          have hi8 : i = 0 ∨ i = 1 ∨ i = 2 ∨ i = 3 ∨ i = 5 ∨ i = 6 ∨ i = 8 ∨ i = 9 := by omega
          clear hi9 hsg
          rcases hi8 with rfl | rfl | rfl | rfl | rfl | rfl | rfl | rfl
          · have hn2 := hne 0 rfl
            have hn3 : ¬ s.size = 0 := by omega
            clear hne
            go_wp2
            exact ⟨⟨1, v * 10 + z, P, rfl, by omega, congrArg (Value.int .i64) (by omega), hvn, hpn2, hlen, hown, hB⟩, by simp [intOf]⟩
          · have hn2 := hne 1 rfl
            clear hne
            go_wp2
            exact ⟨⟨2, v * 10 + z, P, rfl, by omega, congrArg (Value.int .i64) (by omega), hvn, hpn2, hlen, hown, hB⟩, by simp [intOf]⟩
          · have hn2 := hne 2 rfl
            clear hne
            go_wp2
            exact ⟨⟨3, v * 10 + z, P, rfl, by omega, congrArg (Value.int .i64) (by omega), hvn, hpn2, hlen, hown, hB⟩, by simp [intOf]⟩
          · have hn2 := hne 3 rfl
            clear hne
            go_wp2
            exact ⟨⟨4, v * 10 + z, P, rfl, by omega, congrArg (Value.int .i64) (by omega), hvn, hpn2, hlen, hown, hB⟩, by simp [intOf]⟩
          · have hn2 := hne 5 rfl
            clear hne
            go_wp2
            exact ⟨⟨6, v * 10 + z, P, rfl, by omega, congrArg (Value.int .i64) (by omega), hvn, hpn2, hlen, hown, hB⟩, by simp [intOf]⟩
          · have hn2 := hne 6 rfl
            clear hne
            go_wp2
            exact ⟨⟨7, v * 10 + z, P, rfl, by omega, congrArg (Value.int .i64) (by omega), hvn, hpn2, hlen, hown, hB⟩, by simp [intOf]⟩
          · have hn2 := hne 8 rfl
            clear hne
            go_wp2
            exact ⟨⟨9, v * 10 + z, P, rfl, by omega, congrArg (Value.int .i64) (by omega), hvn, hpn2, hlen, hown, hB⟩, by simp [intOf]⟩
          · have hn2 := hne 9 rfl
            clear hne
            go_wp2
            exact ⟨⟨10, v * 10 + z, P, rfl, by omega, congrArg (Value.int .i64) (by omega), hvn, hpn2, hlen, hown, hB⟩, by simp [intOf]⟩

end Go.Proofs.YtekapipfaahhcaaGreatDoor

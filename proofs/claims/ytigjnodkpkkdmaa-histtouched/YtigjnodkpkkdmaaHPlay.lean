import Derived.Test.YtigjnodkpkkdmaaHAll2
namespace Go.Proofs.Ytigjnodkpkkdmaa
open Go.RowKit

structure HOp where
  kind : Int
  a : Int
  L : Es
def OpAt (W : World) (g off : Nat) (o : HOp) : Prop := W.cell? ⟨g, off, none⟩ = some (.int .i64 o.kind) ∧ W.cell? ⟨g, off + 1, none⟩ = some (.int .i64 o.a) ∧ ∃ lv, W.cell? ⟨g, off + 5, none⟩ = some lv ∧ EntA W lv o.L
def OpsA (W : World) (v : Value) (S : List HOp) : Prop := ∃ a cap, v = .slice a S.length cap ∧ S.length ≤ cap ∧ S.length ≤ 9223372036854775807 ∧ (S = [] ∨ ∃ g off, a = some ⟨g, off, none⟩ ∧ g < W.heap.size ∧ ∀ i (h : i < S.length), OpAt W g (off + i * 6) S[i])
theorem OpAt.later {W W' : World} {g off : Nat} {o : HOp} (h : OpAt W g off o) (hg : g < W.heap.size) (hb : Below W.heap.size W W') : OpAt W' g off o := by
  obtain ⟨h1, h2, lv, h3, h4⟩ := h
  have e : ∀ j, W'.cell? ⟨g, j, none⟩ = W.cell? ⟨g, j, none⟩ := fun j => hb.cell (p := ⟨g, j, none⟩) hg
  exact ⟨(e _).trans h1, (e _).trans h2, lv, (e _).trans h3, h4.later hb⟩
theorem OpsA.later {W W' : World} {v : Value} {S : List HOp} (h : OpsA W v S) (hb : Below W.heap.size W W') : OpsA W' v S := by
  obtain ⟨a, cap, rfl, h1, h2, h | ⟨g, off, rfl, hg, hc⟩⟩ := h
  · exact ⟨a, cap, rfl, h1, h2, .inl h⟩
  · exact ⟨_, cap, rfl, h1, h2, .inr ⟨g, off, rfl, Nat.lt_of_lt_of_le hg hb.size, fun i hi => (hc i hi).later hg hb⟩⟩

/-- What a call of a script does. -/
def hstep (s : List Es × Nat) (o : HOp) : List Es × Nat :=
  if o.kind = 1 then (if s.2 < 32 then (s.1.take (s.2 + 1) ++ [mkE o.L], s.2 + 1) else s)
  else if o.kind = 2 then (s.1, s.2 - 1)
  else if o.kind = 3 then (if s.2 + 1 < s.1.length then (s.1, s.2 + 1) else s)
  else if o.kind = 6 then (if 0 ≤ o.a ∧ o.a ≤ (s.2 : Int) then (s.1.drop o.a.toNat, s.2 - o.a.toNat) else s)
  else s

/-- What push does, whatever is there. -/
def pushS (s : List Es × Nat) (L : Es) : List Es × Nat := if s.2 < 32 then (s.1.take (s.2 + 1) ++ [L], s.2 + 1) else s
theorem push_any (hb mb : Nat) (s : List Es × Nat) (L : Es) (hL : L.length ≤ 200) (w : World) (h : HistAt w hb s.1 s.2) (hm : MapE w mb L) : Calls Try.prog 14 #[.pointer (some ⟨hb, 0, none⟩), .pointer (some ⟨mb, 0, none⟩)] w fun e w' => e = .returned (.int .i64 (if s.2 < 32 then 0 else 110)) ∧ HistAt w' hb (pushS s L).1 (pushS s L).2 ∧ w.grownBy w' (some hb) := by
  unfold pushS
  by_cases hp : s.2 < 32
  · simp only [if_pos hp]
    exact push_some hb mb s.1 s.2 hp L hL w h hm
  · simp only [if_neg hp]
    have h1 := h.1
    have h2 := h.2.1
    have e : s.2 = 32 := by omega
    rw [e] at h ⊢
    refine (push_full hb mb s.1 w h).mono ?_
    rintro e' w' ⟨rfl, hb'⟩
    exact ⟨rfl, h.later hb', grown_of_below hb'⟩
theorem undo_any (hb : Nat) (Ls : List Es) (p : Nat) (w : World) (h : HistAt w hb Ls p) : Calls Try.prog 17 #[.pointer (some ⟨hb, 0, none⟩)] w fun e w' => ∃ v, e = .returned v ∧ HistAt w' hb Ls (p - 1) ∧ w.grownBy w' (some hb) := by
  cases p with
  | zero =>
    refine (undo_none hb Ls w h).mono ?_
    rintro e w' ⟨rfl, hb'⟩
    exact ⟨_, rfl, h.later hb', grown_of_below hb'⟩
  | succ p =>
    refine (undo_some hb Ls p w h).mono ?_
    rintro e w' ⟨mb, rfl, -, -, h1, h2⟩
    exact ⟨_, rfl, h1, h2⟩
theorem redo_any (hb : Nat) (Ls : List Es) (p : Nat) (w : World) (h : HistAt w hb Ls p) : Calls Try.prog 18 #[.pointer (some ⟨hb, 0, none⟩)] w fun e w' => ∃ v, e = .returned v ∧ HistAt w' hb Ls (if p + 1 < Ls.length then p + 1 else p) ∧ w.grownBy w' (some hb) := by
  have h1 := h.1
  by_cases hp : p + 1 < Ls.length
  · rw [if_pos hp]
    refine (redo_some hb Ls p hp w h).mono ?_
    rintro e w' ⟨mb, rfl, -, -, h1, h2⟩
    exact ⟨_, rfl, h1, h2⟩
  · rw [if_neg hp]
    refine (redo_none hb Ls p (by omega) w h).mono ?_
    rintro e w' ⟨rfl, hb'⟩
    exact ⟨_, rfl, h.later hb', grown_of_below hb'⟩
def forgetS (s : List Es × Nat) (n : Int) : List Es × Nat := if 0 ≤ n ∧ n ≤ (s.2 : Int) then (s.1.drop n.toNat, s.2 - n.toNat) else s
theorem forget_any (hb : Nat) (s : List Es × Nat) (n : Int) (w : World) (h : HistAt w hb s.1 s.2) : Calls Try.prog 20 #[.pointer (some ⟨hb, 0, none⟩), .int .i64 n] w fun e w' => e = .returned (.int .i64 (if 0 ≤ n ∧ n ≤ (s.2 : Int) then 0 else 113)) ∧ HistAt w' hb (forgetS s n).1 (forgetS s n).2 ∧ w.grownBy w' (some hb) := by
  unfold forgetS
  by_cases hn : 0 ≤ n ∧ n ≤ (s.2 : Int)
  · simp only [if_pos hn]
    obtain ⟨m, rfl⟩ : ∃ m : Nat, n = (m : Int) := ⟨n.toNat, by omega⟩
    have := forget_some hb s.1 s.2 m (by omega) w h
    simpa using this
  · simp only [if_neg hn]
    refine (forget_bad hb s.1 s.2 n (by omega) w h).mono ?_
    rintro e w' ⟨rfl, hb'⟩
    exact ⟨rfl, h.later hb', grown_of_below hb'⟩

set_option maxRecDepth 4000 in
set_option maxHeartbeats 4000000 in
/-- A script's pushes, undos, redos and forgets. -/
theorem plays_any (hb : Nat) (s : List Es × Nat) (v : Value) (S : List HOp) (w0 : World) (hS : OpsA w0 v S) (hlo : w0.heap.size ≤ hb) (w : World) (h0 : Below w0.heap.size w0 w) (h : HistAt w hb s.1 s.2) :
    Calls Try.prog 6 #[.pointer (some ⟨hb, 0, none⟩), v] w fun e w' => e = .returned (.tuple #[]) ∧ HistAt w' hb (S.foldl hstep s).1 (S.foldl hstep s).2 ∧ w.grownBy w' (some hb) := by
  obtain ⟨a, cap, rfl, -, hlen, hD⟩ := hS
  go_enter Try.func6, Try.ntmps6
  go_wp2
  go_loopw [4] (fun iv X => ∃ j : Nat, j ≤ S.length ∧ iv = .int .i64 (j : Int) ∧ HistAt X hb ((S.take j).foldl hstep s).1 ((S.take j).foldl hstep s).2 ∧ w.grownBy X (some hb)) (fun iv _ => S.length - (intOf iv).toNat)
  case atStart => exact ⟨0, by omega, rfl, by simpa using h, grown_of_below (Below.refl _ _)⟩
  case round =>
    obtain ⟨j, hj, rfl, hH, hgr⟩ := hrel
    clear h
    by_cases hlt : j < S.length
    · have hlt' : (j : Int) < (S.length : Int) := by omega
      have hj0 : (0 : Int) ≤ (j : Int) := by omega
      rcases hD with hD | ⟨g, off, rfl, hg, hc⟩
      · rw [hD] at hlt; simp at hlt
      have hBX : Below w0.heap.size w0 wr := h0.grown hgr h0.size (fun k hk => by cases hk; exact hlo)
      have hstp : (S.take (j + 1)).foldl hstep s = hstep ((S.take j).foldl hstep s) S[j] := by rw [List.take_succ_eq_append_getElem hlt, List.foldl_append]; rfl
      have hO := (hc j hlt).later hg hBX
      obtain ⟨s', hs'⟩ : ∃ s', s' = (S.take j).foldl hstep s := ⟨_, rfl⟩
      obtain ⟨o, ho⟩ : ∃ o, o = S[j] := ⟨_, rfl⟩
      rw [← hs', ← ho] at hstp
      rw [← hs'] at hH
      rw [← ho] at hO
      have hST : Hid ((S.take (j + 1)).foldl hstep s = hstep s' o) := hstp
      clear hstp hs' ho hc
      obtain ⟨c0, c1, lv, c5, hE⟩ := hO
      have hEb := hE
      obtain ⟨la, lc, rfl, -⟩ := hE
      have key : ∀ Y, HistAt Y hb (hstep s' o).1 (hstep s' o).2 → wr.grownBy Y (some hb) → HistAt Y hb ((S.take (j + 1)).foldl hstep s).1 ((S.take (j + 1)).foldl hstep s).2 ∧ w.grownBy Y (some hb) := fun Y h1 h2 => ⟨by rw [hST.out]; exact h1, hgr.trans h2⟩
      obtain ⟨kd, hkd⟩ : ∃ kd, kd = o.kind := ⟨_, rfl⟩
      obtain ⟨ar, har⟩ : ∃ ar, ar = o.a := ⟨_, rfl⟩
      rw [← hkd] at c0
      rw [← har] at c1
      obtain ⟨L, hL⟩ : ∃ L, L = o.L := ⟨_, rfl⟩
      rw [← hL] at hEb c5
      have hdef : Hid (hstep s' o = if kd = 1 then pushS s' (mkE L) else if kd = 2 then (s'.1, s'.2 - 1) else if kd = 3 then (if s'.2 + 1 < s'.1.length then (s'.1, s'.2 + 1) else s') else if kd = 6 then forgetS s' ar else s') := by
        rw [hkd, har, hL]
        rfl
      clear hkd har hL
      have hbu := build_any _ L wr hEb
      have hun := undo_any hb s'.1 s'.2 wr hH
      have hre := redo_any hb s'.1 s'.2 wr hH
      have hfo := forget_any hb s' ar wr hH
      by_cases k1 : kd = 1
      · subst k1
        have hd : Hid (hstep s' o = pushS s' (mkE L)) := hdef.out.trans (if_pos rfl)
        clear hdef hun hre hfo
        go_wp2_with (first | (go_at_call 13; refine hbu.mono ?_; rintro e w5 ⟨mb, rfl, hm5, hb5⟩; have hpu := push_any hb mb s' (mkE L) (mkE_len L) w5 (hH.later hb5) hm5) | (go_at_call 14; refine hpu.mono ?_; rintro e w6 ⟨rfl, hH6, hg6⟩))
        go_roundw
        case rel => exact ⟨j + 1, by omega, by go_num, (key _ (by rw [hd.out]; exact hH6) ((grown_of_below hb5).trans hg6)).1, (key _ (by rw [hd.out]; exact hH6) ((grown_of_below hb5).trans hg6)).2⟩
        case measure => simp [intOf]; omega
      · have b1 : (kd == 1) = false := by simpa using k1
        by_cases k2 : kd = 2
        · subst k2
          have hd : Hid (hstep s' o = (s'.1, s'.2 - 1)) := hdef.out.trans ((if_neg k1).trans (if_pos rfl))
          clear hdef hbu hre hfo
          go_wp2_with (go_at_call 17; refine hun.mono ?_; rintro e w6 ⟨v6, rfl, hH6, hg6⟩)
          go_roundw
          case rel => exact ⟨j + 1, by omega, by go_num, (key _ (by rw [hd.out]; exact hH6) (hg6)).1, (key _ (by rw [hd.out]; exact hH6) (hg6)).2⟩
          case measure => simp [intOf]; omega
        · have b2 : (kd == 2) = false := by simpa using k2
          by_cases k3 : kd = 3
          · subst k3
            have hd : Hid (hstep s' o = (s'.1, if s'.2 + 1 < s'.1.length then s'.2 + 1 else s'.2)) := by
              refine hdef.out.trans ((if_neg k1).trans ((if_neg k2).trans ((if_pos rfl).trans ?_)))
              split <;> rfl
            clear hdef hbu hun hfo
            go_wp2_with (go_at_call 18; refine hre.mono ?_; rintro e w6 ⟨v6, rfl, hH6, hg6⟩)
            go_roundw
            case rel => exact ⟨j + 1, by omega, by go_num, (key _ (by rw [hd.out]; exact hH6) (hg6)).1, (key _ (by rw [hd.out]; exact hH6) (hg6)).2⟩
            case measure => simp [intOf]; omega
          · have b3 : (kd == 3) = false := by simpa using k3
            by_cases k6 : kd = 6
            · subst k6
              have hd : Hid (hstep s' o = forgetS s' ar) := hdef.out.trans ((if_neg k1).trans ((if_neg k2).trans ((if_neg k3).trans (if_pos rfl))))
              clear hdef hbu hun hre
              go_wp2_with (go_at_call 20; refine hfo.mono ?_; rintro e w6 ⟨rfl, hH6, hg6⟩)
              go_roundw
              case rel => exact ⟨j + 1, by omega, by go_num, (key _ (by rw [hd.out]; exact hH6) (hg6)).1, (key _ (by rw [hd.out]; exact hH6) (hg6)).2⟩
              case measure => simp [intOf]; omega
            · have b6 : (kd == 6) = false := by simpa using k6
              have hd : Hid (hstep s' o = s') := hdef.out.trans ((if_neg k1).trans ((if_neg k2).trans ((if_neg k3).trans (if_neg k6))))
              clear hdef hbu hun hre hfo
              go_wp2
              go_roundw
              case rel => exact ⟨j + 1, by omega, by go_num, (key _ (by rw [hd.out]; exact hH) (grown_of_below (Below.refl _ _))).1, (key _ (by rw [hd.out]; exact hH) (grown_of_below (Below.refl _ _))).2⟩
              case measure => simp [intOf]; omega
    · have hlt' : ¬ (j : Int) < (S.length : Int) := by omega
      obtain rfl : j = S.length := by omega
      rw [List.take_length] at hH
      go_wp2
      go_end0
      exact ⟨rfl, hH, hgr⟩

end Go.Proofs.Ytigjnodkpkkdmaa

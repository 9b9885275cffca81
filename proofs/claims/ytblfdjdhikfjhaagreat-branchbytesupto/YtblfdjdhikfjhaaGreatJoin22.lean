import Derived.Test.YtblfdjdhikfjhaaGreatTurnBzM
import Derived.Test.YtblfdjdhikfjhaaGreatJoin18
namespace Go.Proofs.YtblfdjdhikfjhaaGreat.BZ
open Go.RowKit

/-- What branches hold can be written: sizes, names, main. -/
def EsR (L : Es) : Prop := ∀ e ∈ L, Rg e.2.1 ∧ Rg e.2.2
structure BrG (k : Nat) (b : Br) : Prop where
  nm : isNm b.nm.data.toList = true
  bs : b.bs.length ≤ k ∧ EsR b.bs
  Ls : ∀ L ∈ b.Ls, L.length ≤ k ∧ EsR L
def Gd (k : Nat) (Bs : List Br) : Prop := (∀ b ∈ Bs, BrG k b) ∧ ∃ b ∈ Bs, b.nm = sMain
theorem BrG.up {k m : Nat} {b : Br} (h : BrG k b) (hm : k ≤ m) : BrG m b := ⟨h.nm, ⟨Nat.le_trans h.bs.1 hm, h.bs.2⟩, fun L hL => ⟨Nat.le_trans (h.Ls L hL).1 hm, (h.Ls L hL).2⟩⟩
theorem Gd.up {k m : Nat} {Bs : List Br} (h : Gd k Bs) (hm : k ≤ m) : Gd m Bs := ⟨fun b hb => (h.1 b hb).up hm, h.2⟩
theorem esR_nil : EsR [] := fun e he => by cases he
theorem ins_len (E : Es) (id : Nat) (v : Int × Int) : (ins E id v).length ≤ E.length + 1 := by
  have := length_ins E id v
  omega
theorem esR_ins {E : Es} (h : EsR E) (id : Nat) (v : Int × Int) (hv : Rg v.1 ∧ Rg v.2) : EsR (ins E id v) := fun e he => by
  rcases mem_ins.1 he with rfl | ⟨-, h2⟩
  · exact hv
  · exact h e h2
theorem putE_len (E : Es) : ∀ (L : Es), (putE E L).length ≤ E.length + L.length := by
  intro L
  induction L generalizing E with
  | nil => simp [putE]
  | cons a L ih =>
    have h1 := ih (ins E a.1 a.2)
    have h2 := ins_len E a.1 a.2
    show (putE (ins E a.1 a.2) L).length ≤ _
    rw [List.length_cons]
    omega
theorem esR_putE {E : Es} (h : EsR E) : ∀ {L : Es}, EsR L → EsR (putE E L) := by
  intro L
  induction L generalizing E with
  | nil => intro _; exact h
  | cons a L ih => intro hL; exact ih (esR_ins h a.1 a.2 (hL a (by simp))) (fun e he => hL e (List.mem_cons_of_mem _ he))

/-- A book behind a step that may lay n entries more. -/
def DoQ (n lo bb : Nat) (Bs : List Br) (_cur : ByteArray) (w w' : World) : Prop := ∃ Bs' cur', BookAt w' lo bb Bs' cur' ∧ Mv lo w w' ∧ ∀ k, Gd k Bs → Gd (k + n) Bs'
theorem DoQ.same {n lo bb : Nat} {Bs : List Br} {cur : ByteArray} {w w' : World} (h : BookAt w lo bb Bs cur) (hl : lo ≤ w.heap.size) (hb : Below w.heap.size w w') : DoQ n lo bb Bs cur w w' := ⟨Bs, cur, h.later hb, Mv.of_below hb hl, fun _ hk => hk.up (Nat.le_add_right _ _)⟩
theorem DoQ.behind {n lo bb : Nat} {Bs : List Br} {cur : ByteArray} {w v w' : World} (h : DoQ n lo bb Bs cur v w') (hb : Below w.heap.size w v) : DoQ n lo bb Bs cur w w' := by
  obtain ⟨Bs', cur', h1, h2, h3⟩ := h
  exact ⟨Bs', cur', h1, h2.behind hb, h3⟩
theorem gd_turn {k n : Nat} {Bs : List Br} {hb : Nat} {Ls : List Es} {p : Nat} (h : Gd k Bs) (hL : ∀ L ∈ Ls, L.length ≤ k + n ∧ EsR L) : Gd (k + n) (turn Bs hb Ls p) := by
  refine ⟨fun x hx => ?_, ?_⟩
  · obtain ⟨b, hb', e1, e2, e3, e4, e5, e6⟩ := mem_turn hx
    by_cases e : b.hb = hb
    · obtain ⟨q1, q2⟩ := e5 e
      have hB := (h.1 b hb').up (Nat.le_add_right k n)
      exact ⟨by rw [e1]; exact hB.nm, by rw [e4]; exact hB.bs, by rw [q1]; exact hL⟩
    · rw [e6 e]
      exact (h.1 b hb').up (Nat.le_add_right _ _)
  · obtain ⟨b, hb', e⟩ := h.2
    refine ⟨_, turn_mem hb', ?_⟩
    split <;> exact e
theorem DoQ.turn {n lo bb : Nat} {Bs : List Br} {c : Br} {Ls : List Es} {p : Nat} {w w' : World} (h : BookAt w' lo bb (turn Bs c.hb Ls p) c.nm ∧ Mv lo w w') (hL : ∀ k, Gd k Bs → ∀ L ∈ Ls, L.length ≤ k + n ∧ EsR L) : DoQ n lo bb Bs c.nm w w' := ⟨_, _, h.1, h.2, fun k hk => gd_turn hk (hL k hk)⟩
theorem gd_ls {k n : Nat} {Bs : List Br} {c : Br} (hc : c ∈ Bs) (hk : Gd k Bs) : ∀ L ∈ c.Ls, L.length ≤ k + n ∧ EsR L := fun L hL => ((hk.1 c hc).up (Nat.le_add_right k n)).Ls L hL

/-- Is it a name? Exact. -/
def NmB (s : ByteArray) (o : Bool) : Prop := o = isNm s.data.toList
theorem fork_dq (n lo bb : Nat) (Bs : List Br) (cur s : ByteArray) (hs : s.size ≤ 140737488355328) (w : World) (hl : lo ≤ w.heap.size) (h : BookAt w lo bb Bs cur) (hN : Calls Tryz.prog 35 #[.string s] w fun e w' => ∃ o : Bool, e = .returned (.bool o) ∧ Hid (NmB s o) ∧ Below w.heap.size w w') :
    Calls Tryz.prog 15 #[.pointer (some ⟨bb, 0, none⟩), .string s] w fun e w' => AnR e ∧ DoQ n lo bb Bs cur w w' := by
  obtain ⟨c, hc, rfl⟩ := h.here
  refine (fork_any (NmB s) lo bb Bs c hc s (by omega) w hl h hN).mono ?_
  rintro e w' (⟨m, -, rfl, hb, -⟩ | ⟨rfl, -, ⟨nb, hnb, hL, -, hbs, hB⟩, hM, hpos⟩)
  · exact ⟨⟨m, rfl⟩, DoQ.same h hl hb⟩
  · refine ⟨⟨0, rfl⟩, _, _, hB, hM, fun k hk => ⟨fun x hx => ?_, ?_⟩⟩
    · rcases List.mem_cons.1 hx with rfl | hx
      · have hg : (c.Ls.getD c.p []).length ≤ k + n ∧ EsR (c.Ls.getD c.p []) := by
          have hp := (h.br hc).2.1.1
          rw [List.getD_eq_getElem?_getD, List.getElem?_eq_getElem hp]
          exact gd_ls hc hk _ (List.getElem_mem hp)
        exact ⟨by rw [hnb]; exact hpos.symm, by rw [hbs]; exact hg, fun L hL' => by rw [hL] at hL'; rw [List.mem_singleton.1 hL']; exact hg⟩
      · exact (hk.1 x hx).up (Nat.le_add_right _ _)
    · obtain ⟨b, hb', e⟩ := hk.2
      exact ⟨b, List.mem_cons_of_mem _ hb', e⟩
theorem switch_dq (n lo bb : Nat) (Bs : List Br) (cur s : ByteArray) (hs : s.size ≤ 140737488355328) (w : World) (hl : lo ≤ w.heap.size) (h : BookAt w lo bb Bs cur) :
    Calls Tryz.prog 16 #[.pointer (some ⟨bb, 0, none⟩), .string s] w fun e w' => AnR e ∧ DoQ n lo bb Bs cur w w' := by
  by_cases hin : ∃ b ∈ Bs, b.nm = s
  · obtain ⟨b, hb, rfl⟩ := hin
    refine (switch_some lo bb Bs cur b hb (by omega) w h).mono ?_
    rintro e w' ⟨rfl, hB, hM⟩
    exact ⟨⟨0, rfl⟩, _, _, hB, hM, fun k hk => hk.up (Nat.le_add_right _ _)⟩
  · refine (switch_none lo bb Bs cur s (le_max hs) (fun b hb e => hin ⟨b, hb, e⟩) w h).mono ?_
    rintro e w' ⟨rfl, rfl⟩
    exact ⟨⟨_, rfl⟩, DoQ.same h hl (Below.refl _ _)⟩
theorem delete_dq (n lo bb : Nat) (Bs : List Br) (cur s : ByteArray) (hs : s.size ≤ 140737488355328) (w : World) (hl : lo ≤ w.heap.size) (h : BookAt w lo bb Bs cur) :
    Calls Tryz.prog 29 #[.pointer (some ⟨bb, 0, none⟩), .string s] w fun e w' => AnR e ∧ DoQ n lo bb Bs cur w w' := by
  by_cases hin : ∃ b ∈ Bs, b.nm = s
  · obtain ⟨b, hb, rfl⟩ := hin
    by_cases hm : b.nm = sMain
    · refine (delete_main lo bb Bs cur b hb hm w h).mono ?_
      rintro e w' ⟨rfl, rfl⟩
      exact ⟨⟨_, rfl⟩, DoQ.same h hl (Below.refl _ _)⟩
    by_cases hc : b.nm = cur
    · subst hc
      refine (delete_here lo bb Bs b hb hm w h).mono ?_
      rintro e w' ⟨rfl, rfl⟩
      exact ⟨⟨_, rfl⟩, DoQ.same h hl (Below.refl _ _)⟩
    refine (delete_some lo bb Bs cur b hb hm hc w h).mono ?_
    rintro e w' ⟨rfl, hB, hM⟩
    refine ⟨⟨0, rfl⟩, _, _, hB, hM, fun k hk => ⟨fun x hx => (hk.1 x (List.mem_filter.1 hx).1).up (Nat.le_add_right _ _), ?_⟩⟩
    obtain ⟨x, hx, e⟩ := hk.2
    exact ⟨x, List.mem_filter.2 ⟨hx, by rw [e]; simpa using fun e => hm e.symm⟩, e⟩
  · refine (delete_none lo bb Bs cur s (le_max hs) (fun b hb e => hin ⟨b, hb, e⟩) w h).mono ?_
    rintro e w' ⟨rfl, rfl⟩
    exact ⟨⟨_, rfl⟩, DoQ.same h hl (Below.refl _ _)⟩
theorem change_dq (n lo bb : Nat) (Bs : List Br) (cur : ByteArray) (mb : Nat) (L : Es) (hL : ∀ k, Gd k Bs → L.length ≤ k + n ∧ EsR L) (w : World) (hl : lo ≤ w.heap.size) (h : BookAt w lo bb Bs cur) (hm : MapE w mb L) :
    Calls Tryz.prog 17 #[.pointer (some ⟨bb, 0, none⟩), .pointer (some ⟨mb, 0, none⟩)] w fun e w' => AnR e ∧ DoQ n lo bb Bs cur w w' := by
  obtain ⟨c, hc, rfl⟩ := h.here
  have hp : c.p < c.Ls.length ∧ c.Ls.length ≤ 33 := ⟨(h.br hc).2.1.1, (h.br hc).2.1.2.1⟩
  by_cases hf : c.p = 32
  · refine (change_full lo bb Bs c hc hf mb w h).mono ?_
    rintro e w' ⟨rfl, hb⟩
    exact ⟨⟨_, rfl⟩, DoQ.same h hl hb⟩
  · refine (change_some lo bb Bs c hc (by omega) mb L w h hm).mono ?_
    rintro e w' ⟨rfl, hB⟩
    refine ⟨⟨_, rfl⟩, DoQ.turn hB fun k hk X hX => ?_⟩
    rcases List.mem_append.1 hX with hX | hX
    · exact gd_ls hc hk X (List.mem_of_mem_take hX)
    · rw [List.mem_singleton.1 hX]
      exact hL k hk
theorem undo_dq (n lo bb : Nat) (Bs : List Br) (cur : ByteArray) (w : World) (hl : lo ≤ w.heap.size) (h : BookAt w lo bb Bs cur) :
    Calls Tryz.prog 30 #[.pointer (some ⟨bb, 0, none⟩)] w fun e w' => AnR e ∧ DoQ n lo bb Bs cur w w' := by
  obtain ⟨c, hc, rfl⟩ := h.here
  cases hp : c.p with
  | zero =>
    refine (bundo_none lo bb Bs c hc hp w h).mono ?_
    rintro e w' ⟨rfl, hb⟩
    exact ⟨⟨_, rfl⟩, DoQ.same h hl hb⟩
  | succ p =>
    refine (bundo_some lo bb Bs c hc p hp w h).mono ?_
    rintro e w' ⟨rfl, hB⟩
    exact ⟨⟨_, rfl⟩, DoQ.turn hB fun k hk => gd_ls hc hk⟩
theorem redo_dq (n lo bb : Nat) (Bs : List Br) (cur : ByteArray) (w : World) (hl : lo ≤ w.heap.size) (h : BookAt w lo bb Bs cur) :
    Calls Tryz.prog 31 #[.pointer (some ⟨bb, 0, none⟩)] w fun e w' => AnR e ∧ DoQ n lo bb Bs cur w w' := by
  obtain ⟨c, hc, rfl⟩ := h.here
  have hp : c.p < c.Ls.length := (h.br hc).2.1.1
  by_cases he : c.p + 1 = c.Ls.length
  · refine (bredo_none lo bb Bs c hc he w h).mono ?_
    rintro e w' ⟨rfl, hb⟩
    exact ⟨⟨_, rfl⟩, DoQ.same h hl hb⟩
  · refine (bredo_some lo bb Bs c hc (by omega) w h).mono ?_
    rintro e w' ⟨rfl, hB⟩
    exact ⟨⟨_, rfl⟩, DoQ.turn hB fun k hk => gd_ls hc hk⟩
theorem forget_dq (n lo bb : Nat) (Bs : List Br) (cur : ByteArray) (m : Int) (w : World) (hl : lo ≤ w.heap.size) (h : BookAt w lo bb Bs cur) :
    Calls Tryz.prog 32 #[.pointer (some ⟨bb, 0, none⟩), .int .i64 m] w fun e w' => AnR e ∧ DoQ n lo bb Bs cur w w' := by
  obtain ⟨c, hc, rfl⟩ := h.here
  by_cases hn : m < 0 ∨ (c.p : Int) < m
  · refine (bforget_bad lo bb Bs c hc m hn w h).mono ?_
    rintro e w' ⟨rfl, hb⟩
    exact ⟨⟨_, rfl⟩, DoQ.same h hl hb⟩
  · obtain ⟨j, rfl⟩ : ∃ j : Nat, m = (j : Int) := ⟨m.toNat, by omega⟩
    refine (bforget_some lo bb Bs c hc j (by omega) w h).mono ?_
    rintro e w' ⟨rfl, hB⟩
    exact ⟨⟨_, rfl⟩, DoQ.turn hB fun k hk L hL => gd_ls hc hk L (List.mem_of_mem_drop hL)⟩

end Go.Proofs.YtblfdjdhikfjhaaGreat.BZ


namespace Go.Proofs.YtblfdjdhikfjhaaGreat.BZ
open Go.RowKit

theorem nm_iff (l : List UInt8) : isNm l = true ↔ 0 < l.length ∧ l.length ≤ 8 ∧ ∀ i (h : i < l.length), (97 ≤ l[i].toNat ∧ l[i].toNat ≤ 122) ∨ (0 < i ∧ 48 ≤ l[i].toNat ∧ l[i].toNat ≤ 57) := by
  cases l with
  | nil => simp [isNm]
  | cons b r =>
    unfold isNm
    simp only [Bool.and_eq_true, decide_eq_true_eq, List.all_eq_true, Bool.or_eq_true, isL, isD, List.length_cons]
    constructor
    · rintro ⟨h1, h2, h3⟩
      refine ⟨by omega, by omega, fun i hi => ?_⟩
      cases i with
      | zero => exact .inl h2
      | succ i =>
        rcases h3 r[i] (List.getElem_mem _) with h | h
        · exact .inl h
        · exact .inr ⟨by omega, h⟩
    · rintro ⟨-, h1, h2⟩
      refine ⟨by omega, ?_, fun c hc => ?_⟩
      · rcases h2 0 (by omega) with h | h
        · exact h
        · exact absurd h.1 (by omega)
      · obtain ⟨i, hi, rfl⟩ := List.mem_iff_getElem.1 hc
        rcases h2 (i + 1) (by omega) with h | h
        · exact .inl h
        · exact .inr h.2
def okTo (s : ByteArray) (j : Nat) : Prop := ∀ i (h : i < s.size), i < j → (97 ≤ s[i].toNat ∧ s[i].toNat ≤ 122) ∨ (0 < i ∧ 48 ≤ s[i].toNat ∧ s[i].toNat ≤ 57)
theorem okTo_0 (s : ByteArray) : Hid (okTo s 0) := fun _ _ h0 => absurd h0 (Nat.not_lt_zero _)
theorem okTo_s {s : ByteArray} {j : Nat} (h : Hid (okTo s j)) (hj : j < s.size) (hb : (97 ≤ s[j].toNat ∧ s[j].toNat ≤ 122) ∨ (0 < j ∧ 48 ≤ s[j].toNat ∧ s[j].toNat ≤ 57)) : Hid (okTo s (j + 1)) := fun i hi hlt => by
  by_cases e : i = j
  · subst e; exact hb
  · exact h i hi (by omega)
theorem ba_len (s : ByteArray) : s.data.toList.length = s.size := by rw [Array.length_toList]; rfl
theorem ba_get (s : ByteArray) (i : Nat) (_ : i < s.size) (h' : i < s.data.toList.length) : s.data.toList[i] = s[i] := by
  rw [Array.getElem_toList]
  rfl
theorem nmY {s : ByteArray} {j : Nat} (h0 : ¬ s.size = 0) (h8 : ¬ 8 < s.size) (hj : j = s.size) (h : Hid (okTo s j)) : Hid (NmB s true) := by
  show true = isNm s.data.toList
  refine ((nm_iff _).2 ⟨by rw [ba_len]; omega, by rw [ba_len]; omega, fun i hi => ?_⟩).symm
  have hi2 : i < s.size := by rw [← ba_len]; exact hi
  rw [ba_get s i hi2 hi]
  exact h i hi2 (by omega)
theorem nmN {s : ByteArray} (h : s.size = 0 ∨ 8 < s.size ∨ ∃ j, ∃ h : j < s.size, ¬ (97 ≤ s[j].toNat ∧ s[j].toNat ≤ 122) ∧ (0 < j → ¬ (48 ≤ s[j].toNat ∧ s[j].toNat ≤ 57))) : Hid (NmB s false) := by
  show false = isNm s.data.toList
  refine (Bool.eq_false_iff.2 fun e => ?_).symm
  obtain ⟨h1, h2, h3⟩ := (nm_iff _).1 e
  rw [ba_len] at h1 h2
  rcases h with h | h | ⟨j, hj, k1, k2⟩
  · omega
  · omega
  · have hj2 : j < s.data.toList.length := by rw [ba_len]; exact hj
    have := h3 j hj2
    rw [ba_get s j hj hj2] at this
    rcases this with q | ⟨q1, q2⟩
    · exact k1 q
    · exact k2 q1 q2

set_option maxRecDepth 4000 in
set_option maxHeartbeats 2000000 in
/-- isName answers. -/
theorem isName_nm (s : ByteArray) (w : World) : Calls Tryz.prog 35 #[.string s] w fun e w' => ∃ o : Bool, e = .returned (.bool o) ∧ Hid (NmB s o) ∧ Below w.heap.size w w' := by
  by_cases h0 : s.size = 0
  · have h0' : ((s.size : Int) == 0) = true := by rw [h0]; rfl
    go_enter Tryz.func35, Tryz.ntmps35
    go_wp2
    go_ret
    exact ⟨false, rfl, nmN (.inl h0), Below.refl _ _⟩
  have h0' : ((s.size : Int) == 0) = false := by rw [beq_eq_false_iff_ne]; omega
  by_cases h8 : 8 < s.size
  · have h8' : (8 : Int) < (s.size : Int) := by omega
    go_enter Tryz.func35, Tryz.ntmps35
    go_wp2
    go_ret
    exact ⟨false, rfl, nmN (.inr (.inl h8)), Below.refl _ _⟩
  have h8' : ¬ (8 : Int) < (s.size : Int) := by omega
  go_enter Tryz.func35, Tryz.ntmps35
  go_wp2
  go_loopw [16] (fun x wr => ∃ j : Nat, j ≤ s.size ∧ x = .int .i64 j ∧ Hid (okTo s j) ∧ Below w.heap.size w wr) (fun x _ => s.size - (intOf x).toNat)
  case atStart => exact ⟨0, by omega, rfl, okTo_0 s, Below.refl _ _⟩
  case round =>
    obtain ⟨j, hj, rfl, hO, hB⟩ := hrel
    by_cases hlt : j < s.size
    · have hlt' : (j : Int) < (s.size : Int) := by omega
      have hj0 : (0 : Int) ≤ (j : Int) := by omega
      by_cases hz : j = 0
      · subst hz
        rcases five s[0].toNat with ⟨h1, h2⟩ | ⟨h1, h2⟩ | ⟨h1, h2⟩ | ⟨h1, h2⟩ | ⟨h1, h2⟩
        · have q0 : ¬ (97 : Int) ≤ ((s[0].toNat : Nat) : Int) := by omega
          have q1 : ¬ (48 : Int) ≤ ((s[0].toNat : Nat) : Int) := by omega
          go_wp2
          exact bodyPost_ret (v := .bool false) (by simp [results, Tryz.results35, go_sem]) rfl (.inl ⟨rfl, nmN (.inr (.inr ⟨0, hlt, by omega, fun h => by omega⟩)), hB⟩)
        · have q0 : ¬ (97 : Int) ≤ ((s[0].toNat : Nat) : Int) := by omega
          have q1 : (48 : Int) ≤ ((s[0].toNat : Nat) : Int) := by omega
          have q2 : ((s[0].toNat : Nat) : Int) ≤ 57 := by omega
          go_wp2
          exact bodyPost_ret (v := .bool false) (by simp [results, Tryz.results35, go_sem]) rfl (.inl ⟨rfl, nmN (.inr (.inr ⟨0, hlt, by omega, fun h => by omega⟩)), hB⟩)
        · have q0 : ¬ (97 : Int) ≤ ((s[0].toNat : Nat) : Int) := by omega
          have q1 : (48 : Int) ≤ ((s[0].toNat : Nat) : Int) := by omega
          have q2 : ¬ ((s[0].toNat : Nat) : Int) ≤ 57 := by omega
          go_wp2
          exact bodyPost_ret (v := .bool false) (by simp [results, Tryz.results35, go_sem]) rfl (.inl ⟨rfl, nmN (.inr (.inr ⟨0, hlt, by omega, fun h => by omega⟩)), hB⟩)
        · have q0 : (97 : Int) ≤ ((s[0].toNat : Nat) : Int) := by omega
          have q1 : ((s[0].toNat : Nat) : Int) ≤ 122 := by omega
          have q2 : (48 : Int) ≤ ((s[0].toNat : Nat) : Int) := by omega
          have q3 : ¬ ((s[0].toNat : Nat) : Int) ≤ 57 := by omega
          go_wp2
          go_roundw
          case rel => exact ⟨1, by omega, by first | rfl | go_num, okTo_s hO hlt (.inl (by omega)), hB⟩
          case measure => simp [intOf]; omega
        · have q0 : (97 : Int) ≤ ((s[0].toNat : Nat) : Int) := by omega
          have q1 : ¬ ((s[0].toNat : Nat) : Int) ≤ 122 := by omega
          have q2 : (48 : Int) ≤ ((s[0].toNat : Nat) : Int) := by omega
          have q3 : ¬ ((s[0].toNat : Nat) : Int) ≤ 57 := by omega
          go_wp2
          exact bodyPost_ret (v := .bool false) (by simp [results, Tryz.results35, go_sem]) rfl (.inl ⟨rfl, nmN (.inr (.inr ⟨0, hlt, by omega, fun h => by omega⟩)), hB⟩)
      · have hz' : ((j : Int) == 0) = false := by simp; omega
        rcases five s[j].toNat with ⟨h1, h2⟩ | ⟨h1, h2⟩ | ⟨h1, h2⟩ | ⟨h1, h2⟩ | ⟨h1, h2⟩
        · have q0 : ¬ (97 : Int) ≤ ((s[j].toNat : Nat) : Int) := by omega
          have q1 : ¬ (48 : Int) ≤ ((s[j].toNat : Nat) : Int) := by omega
          go_wp2
          exact bodyPost_ret (v := .bool false) (by simp [results, Tryz.results35, go_sem]) rfl (.inl ⟨rfl, nmN (.inr (.inr ⟨j, hlt, by omega, fun _ => by omega⟩)), hB⟩)
        · have q0 : ¬ (97 : Int) ≤ ((s[j].toNat : Nat) : Int) := by omega
          have q1 : (48 : Int) ≤ ((s[j].toNat : Nat) : Int) := by omega
          have q2 : ((s[j].toNat : Nat) : Int) ≤ 57 := by omega
          go_wp2
          go_roundw
          case rel => exact ⟨j + 1, by omega, by first | rfl | go_num, okTo_s hO hlt (by omega), hB⟩
          case measure => simp [intOf]; omega
        · have q0 : ¬ (97 : Int) ≤ ((s[j].toNat : Nat) : Int) := by omega
          have q1 : (48 : Int) ≤ ((s[j].toNat : Nat) : Int) := by omega
          have q2 : ¬ ((s[j].toNat : Nat) : Int) ≤ 57 := by omega
          go_wp2
          exact bodyPost_ret (v := .bool false) (by simp [results, Tryz.results35, go_sem]) rfl (.inl ⟨rfl, nmN (.inr (.inr ⟨j, hlt, by omega, fun _ => by omega⟩)), hB⟩)
        · have q0 : (97 : Int) ≤ ((s[j].toNat : Nat) : Int) := by omega
          have q1 : ((s[j].toNat : Nat) : Int) ≤ 122 := by omega
          have q2 : (48 : Int) ≤ ((s[j].toNat : Nat) : Int) := by omega
          have q3 : ¬ ((s[j].toNat : Nat) : Int) ≤ 57 := by omega
          go_wp2
          go_roundw
          case rel => exact ⟨j + 1, by omega, by first | rfl | go_num, okTo_s hO hlt (by omega), hB⟩
          case measure => simp [intOf]; omega
        · have q0 : (97 : Int) ≤ ((s[j].toNat : Nat) : Int) := by omega
          have q1 : ¬ ((s[j].toNat : Nat) : Int) ≤ 122 := by omega
          have q2 : (48 : Int) ≤ ((s[j].toNat : Nat) : Int) := by omega
          have q3 : ¬ ((s[j].toNat : Nat) : Int) ≤ 57 := by omega
          go_wp2
          exact bodyPost_ret (v := .bool false) (by simp [results, Tryz.results35, go_sem]) rfl (.inl ⟨rfl, nmN (.inr (.inr ⟨j, hlt, by omega, fun _ => by omega⟩)), hB⟩)
    · have hlt' : ¬ (j : Int) < (s.size : Int) := by omega
      go_wp2
      exact bodyPost_ret (v := .bool true) (by simp [results, Tryz.results35, go_sem]) rfl (.inr ⟨rfl, nmY h0 h8 (show j = s.size by omega) hO, hB⟩)

end Go.Proofs.YtblfdjdhikfjhaaGreat.BZ

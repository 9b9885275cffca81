import Derived.Test.YtjapkeenlodgcaaBLaw
import Derived.Test.YtjapkeenlodgcaaBBk5
namespace Go.Proofs.Ytjapkeenlodgcaa
open Go.RowKit

def AnR (e : Ending) : Prop := ∃ n : Int, e = .returned (.int .i64 n)
/-- No name is empty. -/
def NE (Bs : List Br) : Prop := ∀ b ∈ Bs, 0 < b.nm.size
/-- A book behind a step: the branch that is kept is as it was, unless it is the current one and the step goes to the current one. -/
def DoP (lo bb : Nat) (keep : ByteArray) (tch : Prop) (Bs : List Br) (cur : ByteArray) (w w' : World) : Prop :=
  ∃ Bs' cur', BookAt w' lo bb Bs' cur' ∧ Mv lo w w' ∧ (∀ b ∈ Bs, b.nm = keep → (tch → b.nm ≠ cur) → ∃ b' ∈ Bs', b'.nm = b.nm ∧ b'.Ls = b.Ls ∧ b'.p = b.p ∧ b'.bs = b.bs) ∧ (NE Bs → NE Bs')
theorem DoP.same {lo bb : Nat} {keep : ByteArray} {tch : Prop} {Bs : List Br} {cur : ByteArray} {w w' : World} (h : BookAt w lo bb Bs cur) (hl : lo ≤ w.heap.size) (hb : Below w.heap.size w w') : DoP lo bb keep tch Bs cur w w' :=
  ⟨Bs, cur, h.later hb, Mv.of_below hb hl, fun b hb' _ _ => ⟨b, hb', rfl, rfl, rfl, rfl⟩, id⟩
theorem DoP.behind {lo bb : Nat} {keep : ByteArray} {tch : Prop} {Bs : List Br} {cur : ByteArray} {w v w' : World} (h : DoP lo bb keep tch Bs cur v w') (hb : Below w.heap.size w v) : DoP lo bb keep tch Bs cur w w' := by
  obtain ⟨Bs', cur', h1, h2, h3⟩ := h
  exact ⟨Bs', cur', h1, h2.behind hb, h3⟩
theorem pw_inj {α β : Type} {f : α → β} : ∀ {l : List α}, l.Pairwise (fun a b => f a ≠ f b) → ∀ {a b : α}, a ∈ l → b ∈ l → f a = f b → a = b
  | [], _, a, b, h, _, _ => by simp at h
  | x :: l, hp, a, b, ha, hb, e => by
    rw [List.pairwise_cons] at hp
    rcases List.mem_cons.1 ha with ea | ha2 <;> rcases List.mem_cons.1 hb with eb | hb2
    · rw [ea, eb]
    · rw [ea] at e; exact absurd e (hp.1 b hb2)
    · rw [eb] at e; exact absurd e.symm (hp.1 a ha2)
    · exact pw_inj hp.2 ha2 hb2 e
theorem BookAt.ties {w : World} {lo bb : Nat} {Bs : List Br} {cur : ByteArray} (h : BookAt w lo bb Bs cur) : Bs.Pairwise (fun a b => a.nm ≠ b.nm) ∧ Bs.Pairwise (fun a b => a.hb ≠ b.hb) := by
  obtain ⟨-, -, mb, D, -, h1, h2, h3, -⟩ := h
  exact ⟨h3.nms, h3.hbs⟩
theorem DoP.turn {lo bb : Nat} {keep : ByteArray} {tch : Prop} {Bs : List Br} {c : Br} {Ls : List Es} {p : Nat} {w w' : World} (hm : tch) (hc : c ∈ Bs) (h0 : BookAt w lo bb Bs c.nm) (h : BookAt w' lo bb (turn Bs c.hb Ls p) c.nm ∧ Mv lo w w') : DoP lo bb keep tch Bs c.nm w w' := by
  refine ⟨_, _, h.1, h.2, fun b hb _ hne => ?_, fun hN x hx => by obtain ⟨b, hb, e, -⟩ := mem_turn hx; rw [e]; exact hN b hb⟩
  have hd : b.hb ≠ c.hb := fun e => hne hm (by rw [pw_inj h0.ties.2 hb hc e])
  refine ⟨b, ?_, rfl, rfl, rfl, rfl⟩
  have := turn_mem (hb := c.hb) (Ls := Ls) (p := p) hb
  rwa [if_neg hd] at this

theorem fork_do (lo bb : Nat) (keep : ByteArray) (Bs : List Br) (cur s : ByteArray) (hs : s.size ≤ 140737488355328) (w : World) (hl : lo ≤ w.heap.size) (h : BookAt w lo bb Bs cur) :
    Calls Try.prog 23 #[.pointer (some ⟨bb, 0, none⟩), .string s] w fun e w' => AnR e ∧ DoP lo bb keep False Bs cur w w' := by
  obtain ⟨c, hc, rfl⟩ := h.here
  refine (fork_any (fun o => o = true → 0 < s.size) lo bb Bs c hc s (by omega) w hl h ((isName_some s w).mono ?_)).mono ?_
  · rintro e w' ⟨⟨o, rfl, ho⟩, hb⟩
    exact ⟨o, rfl, ho, hb⟩
  · rintro e w' (⟨n, -, rfl, hb, -⟩ | ⟨rfl, -, ⟨nb, hnb, -, -, -, hB⟩, hM, hpos⟩)
    · exact ⟨⟨n, rfl⟩, DoP.same h hl hb⟩
    · exact ⟨⟨0, rfl⟩, _, _, hB, hM, fun b hb _ _ => ⟨b, List.mem_cons_of_mem _ hb, rfl, rfl, rfl, rfl⟩, fun hN x hx => by { rcases List.mem_cons.1 hx with rfl | hx; { rw [hnb]; exact hpos rfl }; exact hN x hx }⟩
theorem le_max {n : Nat} (h : n ≤ 140737488355328) : n ≤ maxLen := Nat.le_trans h (by decide)
theorem switch_do (lo bb : Nat) (keep : ByteArray) (Bs : List Br) (cur s : ByteArray) (hs : s.size ≤ 140737488355328) (w : World) (hl : lo ≤ w.heap.size) (h : BookAt w lo bb Bs cur) :
    Calls Try.prog 24 #[.pointer (some ⟨bb, 0, none⟩), .string s] w fun e w' => AnR e ∧ DoP lo bb keep False Bs cur w w' := by
  by_cases hin : ∃ b ∈ Bs, b.nm = s
  · obtain ⟨b, hb, rfl⟩ := hin
    refine (switch_some lo bb Bs cur b hb (by omega) w h).mono ?_
    rintro e w' ⟨rfl, hB, hM⟩
    exact ⟨⟨0, rfl⟩, _, _, hB, hM, fun b hb _ _ => ⟨b, hb, rfl, rfl, rfl, rfl⟩, id⟩
  · refine (switch_none lo bb Bs cur s (le_max hs) (fun b hb e => hin ⟨b, hb, e⟩) w h).mono ?_
    rintro e w' ⟨rfl, rfl⟩
    exact ⟨⟨_, rfl⟩, DoP.same h hl (Below.refl _ _)⟩
theorem delete_do (lo bb : Nat) (keep : ByteArray) (Bs : List Br) (cur s : ByteArray) (hs : s.size ≤ 140737488355328) (hk : s ≠ keep) (w : World) (hl : lo ≤ w.heap.size) (h : BookAt w lo bb Bs cur) :
    Calls Try.prog 29 #[.pointer (some ⟨bb, 0, none⟩), .string s] w fun e w' => AnR e ∧ DoP lo bb keep False Bs cur w w' := by
  by_cases hin : ∃ b ∈ Bs, b.nm = s
  · obtain ⟨b, hb, rfl⟩ := hin
    by_cases hm : b.nm = sMain
    · refine (delete_main lo bb Bs cur b hb hm w h).mono ?_
      rintro e w' ⟨rfl, rfl⟩
      exact ⟨⟨_, rfl⟩, DoP.same h hl (Below.refl _ _)⟩
    by_cases hc : b.nm = cur
    · subst hc
      refine (delete_here lo bb Bs b hb hm w h).mono ?_
      rintro e w' ⟨rfl, rfl⟩
      exact ⟨⟨_, rfl⟩, DoP.same h hl (Below.refl _ _)⟩
    refine (delete_some lo bb Bs cur b hb hm hc w h).mono ?_
    rintro e w' ⟨rfl, hB, hM⟩
    exact ⟨⟨0, rfl⟩, _, _, hB, hM, fun x hx e _ => ⟨x, List.mem_filter.2 ⟨hx, by rw [e]; simpa using hk.symm⟩, rfl, rfl, rfl, rfl⟩, fun hN x hx => hN x (List.mem_filter.1 hx).1⟩
  · refine (delete_none lo bb Bs cur s (le_max hs) (fun b hb e => hin ⟨b, hb, e⟩) w h).mono ?_
    rintro e w' ⟨rfl, rfl⟩
    exact ⟨⟨_, rfl⟩, DoP.same h hl (Below.refl _ _)⟩
theorem change_do (lo bb : Nat) (keep : ByteArray) (Bs : List Br) (cur : ByteArray) (mb : Nat) (L : Es) (w : World) (hl : lo ≤ w.heap.size) (h : BookAt w lo bb Bs cur) (hm : MapE w mb L) :
    Calls Try.prog 16 #[.pointer (some ⟨bb, 0, none⟩), .pointer (some ⟨mb, 0, none⟩)] w fun e w' => AnR e ∧ DoP lo bb keep True Bs cur w w' := by
  obtain ⟨c, hc, rfl⟩ := h.here
  have hp : c.p < c.Ls.length ∧ c.Ls.length ≤ 33 := ⟨(h.br hc).2.1.1, (h.br hc).2.1.2.1⟩
  by_cases hf : c.p = 32
  · refine (change_full lo bb Bs c hc hf mb w h).mono ?_
    rintro e w' ⟨rfl, hb⟩
    exact ⟨⟨_, rfl⟩, DoP.same h hl hb⟩
  · refine (change_some lo bb Bs c hc (by omega) mb L w h hm).mono ?_
    rintro e w' ⟨rfl, hB⟩
    exact ⟨⟨_, rfl⟩, DoP.turn trivial hc h hB⟩
theorem undo_do (lo bb : Nat) (keep : ByteArray) (Bs : List Br) (cur : ByteArray) (w : World) (hl : lo ≤ w.heap.size) (h : BookAt w lo bb Bs cur) :
    Calls Try.prog 20 #[.pointer (some ⟨bb, 0, none⟩)] w fun e w' => AnR e ∧ DoP lo bb keep True Bs cur w w' := by
  obtain ⟨c, hc, rfl⟩ := h.here
  cases hp : c.p with
  | zero =>
    refine (bundo_none lo bb Bs c hc hp w h).mono ?_
    rintro e w' ⟨rfl, hb⟩
    exact ⟨⟨_, rfl⟩, DoP.same h hl hb⟩
  | succ p =>
    refine (bundo_some lo bb Bs c hc p hp w h).mono ?_
    rintro e w' ⟨rfl, hB⟩
    exact ⟨⟨_, rfl⟩, DoP.turn trivial hc h hB⟩
theorem redo_do (lo bb : Nat) (keep : ByteArray) (Bs : List Br) (cur : ByteArray) (w : World) (hl : lo ≤ w.heap.size) (h : BookAt w lo bb Bs cur) :
    Calls Try.prog 21 #[.pointer (some ⟨bb, 0, none⟩)] w fun e w' => AnR e ∧ DoP lo bb keep True Bs cur w w' := by
  obtain ⟨c, hc, rfl⟩ := h.here
  have hp : c.p < c.Ls.length := (h.br hc).2.1.1
  by_cases he : c.p + 1 = c.Ls.length
  · refine (bredo_none lo bb Bs c hc he w h).mono ?_
    rintro e w' ⟨rfl, hb⟩
    exact ⟨⟨_, rfl⟩, DoP.same h hl hb⟩
  · refine (bredo_some lo bb Bs c hc (by omega) w h).mono ?_
    rintro e w' ⟨rfl, hB⟩
    exact ⟨⟨_, rfl⟩, DoP.turn trivial hc h hB⟩
theorem forget_do (lo bb : Nat) (keep : ByteArray) (Bs : List Br) (cur : ByteArray) (n : Int) (w : World) (hl : lo ≤ w.heap.size) (h : BookAt w lo bb Bs cur) :
    Calls Try.prog 30 #[.pointer (some ⟨bb, 0, none⟩), .int .i64 n] w fun e w' => AnR e ∧ DoP lo bb keep True Bs cur w w' := by
  obtain ⟨c, hc, rfl⟩ := h.here
  by_cases hn : n < 0 ∨ (c.p : Int) < n
  · refine (bforget_bad lo bb Bs c hc n hn w h).mono ?_
    rintro e w' ⟨rfl, hb⟩
    exact ⟨⟨_, rfl⟩, DoP.same h hl hb⟩
  · obtain ⟨m, rfl⟩ : ∃ m : Nat, n = (m : Int) := ⟨n.toNat, by omega⟩
    refine (bforget_some lo bb Bs c hc m (by omega) w h).mono ?_
    rintro e w' ⟨rfl, hB⟩
    exact ⟨⟨_, rfl⟩, DoP.turn trivial hc h hB⟩

end Go.Proofs.Ytjapkeenlodgcaa

import Derived.Test.YtjapkeenlodgcaaBBk4
namespace Go.Proofs.Ytjapkeenlodgcaa
open Go.RowKit

/-- A branch is new. -/
theorem BookAt.added {w X X' : World} {lo bb mb : Nat} {D : DataW Nat} {Bs : List Br} {cur : ByteArray} (h : BookAt w lo bb Bs cur) (hl : lo ≤ w.heap.size) (hc : w.cell? ⟨bb, 0, none⟩ = some (.map (some mb))) (hown : w.ownsMap Try.prog 9 bR mb Bs.length D) (hT : Ties D Bs) (hb : Below w.heap.size w X) {nb : Br} (hB : BrAt X nb) (hh : w.heap.size ≤ nb.hb) (hn : ∀ b ∈ Bs, b.nm ≠ nb.nm) (h6 : Bs.length < 6)
    (hg : X.grownBy X' (some mb)) (hown' : X'.ownsMap Try.prog 9 bR mb (Bs.length + 1) (D.put (kl nb.nm) (.held nb.xb))) : BookAt X' lo bb (nb :: Bs) cur ∧ Mv lo w X' := by
  have hX := h.later hb
  have hlX := hX.lt
  have hhb : ∀ b ∈ Bs, b.hb ≠ nb.hb := fun b hb' e => by
    have := (h.br hb').2.1.lt
    omega
  have hcX := (hb.cell (p := ⟨bb, 0, none⟩) h.lt).trans hc
  have hownX := ownsMap_later hown hb
  have hnu := map_noU hown
  obtain ⟨l1, l2, mb', D', l3, h1, h2, h3, h4, ⟨c, hc', e'⟩, -⟩ := hX
  have cB := cell_of_row _ _ 0 _ _ _ h1
  rw [hcX] at cB
  simp at cB
  subst cB
  have hO := odd_map hownX
  refine ⟨⟨l1, fun x hx => ?_, mb, _, l3, (hg.block _ hlX (fun e => map_ne_cells hownX hcX (Option.some.inj e).symm)).trans h1, hown', hT.put hB.2.2 hn hhb, fun x hx => ?_, ⟨c, List.mem_cons_of_mem _ hc', e'⟩, by simp; omega⟩, Mv.after hb l3 hnu hg⟩
  · rcases List.mem_cons.1 hx with rfl | hx
    · exact Nat.le_trans hl hh
    · exact l2 x hx
  · rcases List.mem_cons.1 hx with rfl | hx
    · exact hB.keptO hO hg
    · exact (h4 x hx).keptO hO hg

theorem Mv.behind {lo : Nat} {W X W' : World} (h : Mv lo X W') (hb : Below W.heap.size W X) : Mv lo W W' := by
  obtain ⟨r, h1, h2, h3⟩ := h
  refine ⟨r, h1, ?_, (grown_of_below hb).trans h3⟩
  by_cases hr : r < W.heap.size
  · exact ⟨fun o k e => h2.1 o k ((hb.cell (p := ⟨r, o, none⟩) hr).trans e), fun cs t m e => h2.2 cs t m ((hb.block r hr).trans e)⟩
  · exact noU_new W (Nat.not_lt.1 hr)
/-- What Fork answers, and leaves. -/
def ForkP (PN : Bool → Prop) (lo bb : Nat) (Bs : List Br) (cur s : ByteArray) (L : Es) (w : World) (e : Ending) (w' : World) : Prop :=
  (∃ n : Int, n ≠ 0 ∧ e = .returned (.int .i64 n) ∧ Below w.heap.size w w' ∧ (PN false ∨ (∃ b ∈ Bs, b.nm = s) ∨ 6 ≤ Bs.length)) ∨
  (e = .returned (.int .i64 0) ∧ (∀ b ∈ Bs, b.nm ≠ s) ∧ (∃ nb : Br, nb.nm = s ∧ nb.Ls = [L] ∧ nb.p = 0 ∧ nb.bs = L ∧ BookAt w' lo bb (nb :: Bs) cur) ∧ Mv lo w w' ∧ PN true)

set_option maxRecDepth 4000 in
set_option maxHeartbeats 4000000 in
theorem fork_any (PN : Bool → Prop) (lo bb : Nat) (Bs : List Br) (c : Br) (hc : c ∈ Bs) (s : ByteArray) (hs : s.size ≤ 281474976710656) (w : World) (hl : lo ≤ w.heap.size) (h : BookAt w lo bb Bs c.nm) (hN : Calls Try.prog 40 #[.string s] w fun e w' => ∃ o : Bool, e = .returned (.bool o) ∧ Hid (PN o) ∧ Below w.heap.size w w') :
    Calls Try.prog 23 #[.pointer (some ⟨bb, 0, none⟩), .string s] w (ForkP PN lo bb Bs c.nm s (c.Ls.getD c.p []) w) := by
  have hs' : s.size ≤ maxLen := Nat.le_trans hs (by decide)
  go_enter Try.func23, Try.ntmps23
  go_wp2_with (go_at_call 40; fail)
  refine hN.mono ?_
  rintro e w1 ⟨o, rfl, hPo, hb1⟩
  have hk := h.later hb1
  obtain ⟨mb, D, c0, c1, -, h2, h3, l3⟩ := hk.cells
  cases o with
  | false =>
    clear h2 h3
    go_wp2
    go_ret
    exact .inl ⟨120, by decide, rfl, hb1, .inl hPo⟩
  | true =>
    by_cases hin : ∃ b ∈ Bs, b.nm = s
    · obtain ⟨b, hb, rfl⟩ := hin
      have hr := look_yes h2 h3 hb hs'
      have hin' : Hid (∃ x ∈ Bs, x.nm = b.nm) := ⟨b, hb, rfl⟩
      clear h2 h3 hb
      go_wp2
      go_ret
      exact .inl ⟨121, by decide, rfl, hb1, .inr (.inl hin'.out)⟩
    have hn : ∀ b ∈ Bs, b.nm ≠ s := fun b hb e => hin ⟨b, hb, e⟩
    have hHn : Hid (∀ b ∈ Bs, b.nm ≠ s) := hn
    have hr := look_not h2 h3 hn hs'
    have hlen := h2.len bmapT
    rw [h3.size] at hlen
    clear hin hn
    by_cases h6 : 6 ≤ Bs.length
    · have h6' : (6 : Int) ≤ (Bs.length : Int) := by omega
      clear h2 h3
      go_wp2
      go_ret
      exact .inl ⟨123, by decide, rfl, hb1, .inr (.inr h6)⟩
    have h6' : ¬ (6 : Int) ≤ (Bs.length : Int) := by omega
    have h6n : Bs.length < 6 := by omega
    have hc0 : ∀ X, Below w1.heap.size w1 X → X.cell? ⟨bb, 0, none⟩ = some (.map (some mb)) := fun X hX => (hX.cell (p := ⟨bb, 0, none⟩) hk.lt).trans c0
    have B0 : Below w1.heap.size w1 w1.drew := (Below.refl _ _).drew
    have cD := hc0 _ B0
    have hH2 : Hid (w1.ownsMap Try.prog 9 bR mb Bs.length D) := h2
    have hH3 : Hid (Ties D Bs) := h3
    have hHk : Hid (BookAt w1 lo bb Bs c.nm) := hk
    clear h h2 h3 hk hN
    go_wp2
    go_region_law (first
      | (go_simp; go_at_call 41; refine (sclone s hs _).mono ?_; rintro e wC ⟨rfl, hbC⟩; first
          | (have hBC2 := below_step hBF hbC; have cC2 := hc0 _ hBC2; have hBr2 := hBr.later hbC; obtain ⟨w8, hrun8, hown8, hg8⟩ := (ownsMap_later hH2.out hBC2).update bkey bmapT (by unfold maxLen; omega) (bkeyOf hs') (show bR (.pointer (some ⟨xb, 0, none⟩)) = some (.held xb, []) from rfl))
          | (have hBC := below_step hBI hbC; have cC := hc0 _ hBC; have hmC := hmI.later hbC)
          | (have hBC := below_step B0 hbC; have cC := hc0 _ hBC))
      | (go_simp; go_at_call 14; refine (inputs_any lo bb Bs c hc _ (hHk.out.later (by first | exact hBC | exact B0))).mono ?_; rintro e wI ⟨mI, rfl, hmI, hbI⟩; first
          | (have hBI := below_step hBC hbI; have cI := hc0 _ hBI)
          | (have hBI := below_step B0 hbI; have cI := hc0 _ hBI))
      | (go_simp; go_at_call 39; refine (forked_any s hs' _ (c.Ls.getD c.p []) _ (by first | exact hmC | exact hmI)).mono ?_; rintro e wF ⟨xb, hb, rfl, hBr, hxb, hhb, hbF⟩; first
          | (have hBF := below_step hBC hbF; have cF := hc0 _ hBF; have hhb' := Nat.le_trans hBC.size hhb; obtain ⟨w9, hrun9, hown9, hg9⟩ := (ownsMap_later hH2.out hBF).update bkey bmapT (by unfold maxLen; omega) (bkeyOf hs') (show bR (.pointer (some ⟨xb, 0, none⟩)) = some (.held xb, []) from rfl))
          | (have hBF := below_step hBI hbF; have cF := hc0 _ hBF; have hhb' := Nat.le_trans hBI.size hhb; obtain ⟨w9, hrun9, hown9, hg9⟩ := (ownsMap_later hH2.out hBF).update bkey bmapT (by unfold maxLen; omega) (bkeyOf hs') (show bR (.pointer (some ⟨xb, 0, none⟩)) = some (.held xb, []) from rfl))))
    all_goals
      go_wp2
      go_ret
      first
        | (have k := hHk.out.added (Nat.le_trans hl hb1.size) c0 hH2.out hH3.out hBC2 hBr2 hhb' hHn.out h6n hg8 hown8; exact .inr ⟨rfl, hHn.out, ⟨_, rfl, rfl, rfl, rfl, k.1⟩, k.2.behind hb1, hPo.out⟩)
        | (have k := hHk.out.added (Nat.le_trans hl hb1.size) c0 hH2.out hH3.out hBF hBr hhb' hHn.out h6n hg9 hown9; exact .inr ⟨rfl, hHn.out, ⟨_, rfl, rfl, rfl, rfl, k.1⟩, k.2.behind hb1, hPo.out⟩)

end Go.Proofs.Ytjapkeenlodgcaa

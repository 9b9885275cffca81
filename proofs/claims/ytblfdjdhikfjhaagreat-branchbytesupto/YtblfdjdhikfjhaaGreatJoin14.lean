import Derived.Test.YtblfdjdhikfjhaaGreatTurnBBk3
import Derived.Carry
namespace Go.Proofs.YtblfdjdhikfjhaaGreat
open Go.RowKit

set_option maxRecDepth 4000 in
set_option maxHeartbeats 1000000 in
theorem forked_end {w w1 w2 : World} {hb m2 : Nat} {nm : ByteArray} {L : Es} (hs : nm.size ≤ maxLen) (hb1 : Below w.heap.size w w1) (hH : HistAt w1 hb [L] 0) (hm : MapE w2 m2 ([L].getD 0 [])) (hb2 : Below w1.heap.size w1 w2) :
    BrAt (w2.alloc (.cells #[.pointer (some ⟨hb, 0, none⟩), .pointer (some ⟨m2, 0, none⟩)] 75)) ⟨nm, w2.heap.size, hb, [L], 0, L⟩ ∧ Below w.heap.size w (w2.alloc (.cells #[.pointer (some ⟨hb, 0, none⟩), .pointer (some ⟨m2, 0, none⟩)] 75)) ∧ w.heap.size ≤ w2.heap.size := by
  have hb3 := (Below.refl w2.heap.size w2).alloc (Nat.le_refl _) (.cells #[.pointer (some ⟨hb, 0, none⟩), .pointer (some ⟨m2, 0, none⟩)] 75)
  have hB := below_step hb1 hb2
  exact ⟨⟨⟨m2, heap_alloc_last w2 _, hm.later hb3⟩, (hH.later hb2).later hb3, hs⟩, below_step hB hb3, hB.size⟩

set_option maxRecDepth 4000 in
set_option maxHeartbeats 1000000 in
theorem forked_any (nm : ByteArray) (hs : nm.size ≤ maxLen) (mb : Nat) (L : Es) (w : World) (hm : MapE w mb L) : Calls Tryz.prog 33 #[.pointer (some ⟨mb, 0, none⟩)] w fun e w' => ∃ xb hb, e = .returned (.pointer (some ⟨xb, 0, none⟩)) ∧ BrAt w' ⟨nm, xb, hb, [L], 0, L⟩ ∧ w.heap.size ≤ xb ∧ w.heap.size ≤ hb ∧ Below w.heap.size w w' := by
  have hN := new_any mb L (by have := hm.len; omega) w hm
  go_enter Tryz.func33, Tryz.ntmps33
  go_wp2_with (first | (go_at_call 61; refine hN.mono ?_; rintro e w1 ⟨hb, rfl, hb0, hH, hb1⟩) | (go_at_call 39; refine (now_any _ _ _ _ hH).mono ?_; rintro e w2 ⟨m2, rfl, hm2, -, hb2⟩))
  go_ret
  obtain ⟨k1, k2, k3⟩ := forked_end hs hb1 hH hm2 hb2
  exact ⟨_, hb, rfl, k1, k3, hb0, k2⟩

set_option maxRecDepth 4000 in
set_option maxHeartbeats 1000000 in
theorem forked_nil (nm : ByteArray) (hs : nm.size ≤ maxLen) (w : World) : Calls Tryz.prog 33 #[.pointer none] w fun e w' => ∃ xb hb, e = .returned (.pointer (some ⟨xb, 0, none⟩)) ∧ BrAt w' ⟨nm, xb, hb, [[]], 0, []⟩ ∧ w.heap.size ≤ xb ∧ w.heap.size ≤ hb ∧ Below w.heap.size w w' := by
  have hN := new_nil w
  go_enter Tryz.func33, Tryz.ntmps33
  go_wp2_with (first | (go_at_call 61; refine hN.mono ?_; rintro e w1 ⟨hb, rfl, hb0, hH, hb1⟩) | (go_at_call 39; refine (now_any _ _ _ _ hH).mono ?_; rintro e w2 ⟨m2, rfl, hm2, -, hb2⟩))
  go_ret
  obtain ⟨k1, k2, k3⟩ := forked_end hs hb1 hH hm2 hb2
  exact ⟨_, hb, rfl, k1, k3, hb0, k2⟩

theorem kl_key (s : ByteArray) : WideAt.IsKeyLit (kl s) := trivial
theorem Ties.none : Ties (.map []) [] where
  tidy := Go.Maps.tidy_empty
  size := rfl
  hasK := fun s _ => by simp [Go.Maps.has_eq]
  atK := fun b hb => by simp at hb
  nms := List.Pairwise.nil
  hbs := List.Pairwise.nil
theorem Ties.put {D : DataW Nat} {Bs : List Br} (h : Ties D Bs) {nb : Br} (hs : nb.nm.size ≤ maxLen) (hn : ∀ b ∈ Bs, b.nm ≠ nb.nm) (hh : ∀ b ∈ Bs, b.hb ≠ nb.hb) : Ties (D.put (kl nb.nm) (.held nb.xb)) (nb :: Bs) where
  tidy := h.tidy.put (kl_key _) _
  size := by
    have hf : Go.Maps.has D (kl nb.nm) = false := by
      cases e : Go.Maps.has D (kl nb.nm) with
      | false => rfl
      | true =>
        obtain ⟨b, h1, h2⟩ := (h.hasK _ hs).1 e
        exact absurd h2 (hn b h1)
    rw [Go.Maps.size_put h.tidy, hf, h.size]
    rfl
  hasK := fun s hs' => by
    by_cases e : s = nb.nm
    · rw [e, Go.Maps.has_put_same h.tidy.isMap (kl_key _)]
      simp
    · rw [Go.Maps.has_put_other (kl_ne e), h.hasK s hs']
      constructor
      · rintro ⟨x, hx, rfl⟩
        exact ⟨x, List.mem_cons_of_mem _ hx, rfl⟩
      · rintro ⟨x, hx, rfl⟩
        rcases List.mem_cons.1 hx with rfl | hx
        · exact absurd rfl e
        · exact ⟨x, hx, rfl⟩
  atK := fun x hx => by
    rcases List.mem_cons.1 hx with rfl | hx
    · exact Go.Maps.atKey_put_same h.tidy.isMap (kl_key _) _ _
    · rw [Go.Maps.atKey_put_other (kl_ne (hn x hx)), h.atK x hx]
  nms := List.pairwise_cons.2 ⟨fun b hb => (hn b hb).symm, h.nms⟩
  hbs := List.pairwise_cons.2 ⟨fun b hb => (hh b hb).symm, h.hbs⟩

/-- A new book. -/
theorem book_new {w w1 w2 : World} {b : Br} (hs : b.nm.size ≤ maxLen) (hb1 : Below (w.alloc (.map #[] 0)).heap.size (w.alloc (.map #[] 0)) w1) (hB : BrAt w1 b) (hx : w.heap.size ≤ b.hb) (hg : w1.grownBy w2 (some w.heap.size)) (hown1 : w1.ownsMap Tryz.prog 9 bR w.heap.size 0 (.map [])) (hown : w2.ownsMap Tryz.prog 9 bR w.heap.size (0 + 1) ((DataW.map []).put (kl b.nm) (.held b.xb))) :
    BookAt (w2.alloc (.cells #[.map (some w.heap.size), .string b.nm] 71)) w.heap.size w2.heap.size [b] b.nm ∧ Below w.heap.size w (w2.alloc (.cells #[.map (some w.heap.size), .string b.nm] 71)) := by
  have hb3 := (Below.refl w2.heap.size w2).alloc (Nat.le_refl _) (.cells #[.map (some w.heap.size), .string b.nm] 71)
  have h0 : Below w.heap.size w (w.alloc (.map #[] 0)) := (Below.refl _ _).alloc (Nat.le_refl _) _
  have hB1 : Below w.heap.size w w1 := below_step h0 hb1
  have hB2 : Below w.heap.size w w2 := hB1.grown hg hB1.size (fun k hk => by cases hk; exact Nat.le_refl _)
  have hBr2 := hB.keptO (odd_map hown1) hg
  refine ⟨⟨hB2.size, fun x hx' => by rw [List.mem_singleton.1 hx']; exact hx, w.heap.size, _, Nat.le_refl _, heap_alloc_last w2 _, ownsMap_later hown hb3, Ties.none.put hs (fun b hb => by simp at hb) (fun b hb => by simp at hb), fun x hx' => by rw [List.mem_singleton.1 hx']; exact hBr2.later hb3, ⟨b, List.mem_singleton.2 rfl, rfl⟩, by simp⟩, below_step hB2 hb3⟩

set_option maxRecDepth 4000 in
set_option maxHeartbeats 1000000 in
theorem book_any (mb : Nat) (L : Es) (w : World) (hm : MapE w mb L) : Calls Tryz.prog 12 #[.pointer (some ⟨mb, 0, none⟩)] w fun e w' => ∃ bb b, e = .returned (.pointer (some ⟨bb, 0, none⟩)) ∧ BookAt w' w.heap.size bb [b] sMain ∧ b.nm = sMain ∧ b.Ls = [L] ∧ b.p = 0 ∧ b.bs = L ∧ Below w.heap.size w w' := by
  have hmm := @run_makeMap Tryz.prog
  have hs : sMain.size ≤ maxLen := by decide
  have h0 : Below w.heap.size w (w.alloc (.map #[] 0)) := (Below.refl _ _).alloc (Nat.le_refl _) _
  have hF := forked_any sMain hs mb L (w.alloc (.map #[] 0)) (hm.later h0)
  have ho := World.ownsMap_made w Tryz.prog 9 bR
  go_enter Tryz.func12, Tryz.ntmps12
  go_wp2_with (go_at_call 33; refine hF.mono ?_; rintro e w1 ⟨xb, hb, rfl, hB, hx, hh, hb1⟩; have ho1 := ownsMap_later ho hb1; obtain ⟨w2, hrun, ho2, hg2⟩ := ho1.update bkey bmapT (by decide) (bkeyOf hs) (show bR (.pointer (some ⟨xb, 0, none⟩)) = some (.held xb, []) from rfl); unfold sMain at hrun)
  go_ret
  obtain ⟨k1, k2⟩ := book_new hs hb1 hB (Nat.le_trans (by simp) hh) hg2 ho1 ho2
  exact ⟨_, _, rfl, k1, rfl, rfl, rfl, rfl, k2⟩

set_option maxRecDepth 4000 in
set_option maxHeartbeats 1000000 in
theorem book_nil (w : World) : Calls Tryz.prog 12 #[.pointer none] w fun e w' => ∃ bb b, e = .returned (.pointer (some ⟨bb, 0, none⟩)) ∧ BookAt w' w.heap.size bb [b] sMain ∧ b.nm = sMain ∧ b.Ls = [[]] ∧ b.p = 0 ∧ b.bs = [] ∧ Below w.heap.size w w' := by
  have hmm := @run_makeMap Tryz.prog
  have hs : sMain.size ≤ maxLen := by decide
  have hF := forked_nil sMain hs (w.alloc (.map #[] 0))
  have ho := World.ownsMap_made w Tryz.prog 9 bR
  go_enter Tryz.func12, Tryz.ntmps12
  go_wp2_with (go_at_call 33; refine hF.mono ?_; rintro e w1 ⟨xb, hb, rfl, hB, hx, hh, hb1⟩; have ho1 := ownsMap_later ho hb1; obtain ⟨w2, hrun, ho2, hg2⟩ := ho1.update bkey bmapT (by decide) (bkeyOf hs) (show bR (.pointer (some ⟨xb, 0, none⟩)) = some (.held xb, []) from rfl); unfold sMain at hrun)
  go_ret
  obtain ⟨k1, k2⟩ := book_new hs hb1 hB (Nat.le_trans (by simp) hh) hg2 ho1 ho2
  exact ⟨_, _, rfl, k1, rfl, rfl, rfl, rfl, k2⟩

end Go.Proofs.YtblfdjdhikfjhaaGreat


namespace Go.Proofs.YtblfdjdhikfjhaaGreat
open Go.RowKit

/-- A branch is new. -/
theorem BookAt.added {w X X' : World} {lo bb mb : Nat} {D : DataW Nat} {Bs : List Br} {cur : ByteArray} (h : BookAt w lo bb Bs cur) (hl : lo ≤ w.heap.size) (hc : w.cell? ⟨bb, 0, none⟩ = some (.map (some mb))) (hown : w.ownsMap Tryz.prog 9 bR mb Bs.length D) (hT : Ties D Bs) (hb : Below w.heap.size w X) {nb : Br} (hB : BrAt X nb) (hh : w.heap.size ≤ nb.hb) (hn : ∀ b ∈ Bs, b.nm ≠ nb.nm) (h6 : Bs.length < 6)
    (hg : X.grownBy X' (some mb)) (hown' : X'.ownsMap Tryz.prog 9 bR mb (Bs.length + 1) (D.put (kl nb.nm) (.held nb.xb))) : BookAt X' lo bb (nb :: Bs) cur ∧ Mv lo w X' := by
  have hX := h.later hb
  have hlX := hX.lt
  have hhb : ∀ b ∈ Bs, b.hb ≠ nb.hb := fun b hb' e => by
    have := (h.br hb').2.1.lt
    omega
  have hcX := (hb.cell (p := ⟨bb, 0, none⟩) h.lt).trans hc
  have hownX := ownsMap_later hown hb
  have hnu := map_noU hown
  obtain ⟨l1, l2, mb', D', l3, h1, h2, h3, h4, ⟨c, hc', e'⟩, -⟩ := hX
  have cB := cell_of_row _ _ 0 _ _ _ h1
  rw [hcX] at cB
  simp at cB
  subst cB
  have hO := odd_map hownX
  refine ⟨⟨l1, fun x hx => ?_, mb, _, l3, (hg.block _ hlX (fun e => map_ne_cells hownX hcX (Option.some.inj e).symm)).trans h1, hown', hT.put hB.2.2 hn hhb, fun x hx => ?_, ⟨c, List.mem_cons_of_mem _ hc', e'⟩, by simp; omega⟩, Mv.after hb l3 hnu hg⟩
  · rcases List.mem_cons.1 hx with rfl | hx
    · exact Nat.le_trans hl hh
    · exact l2 x hx
  · rcases List.mem_cons.1 hx with rfl | hx
    · exact hB.keptO hO hg
    · exact (h4 x hx).keptO hO hg

theorem Mv.behind {lo : Nat} {W X W' : World} (h : Mv lo X W') (hb : Below W.heap.size W X) : Mv lo W W' := by
  obtain ⟨r, h1, h2, h3⟩ := h
  refine ⟨r, h1, ?_, (grown_of_below hb).trans h3⟩
  by_cases hr : r < W.heap.size
  · exact ⟨fun o k e => h2.1 o k ((hb.cell (p := ⟨r, o, none⟩) hr).trans e), fun cs t m e => h2.2 cs t m ((hb.block r hr).trans e)⟩
  · exact noU_new W (Nat.not_lt.1 hr)
/-- What Fork answers, and leaves. -/
def ForkP (PN : Bool → Prop) (lo bb : Nat) (Bs : List Br) (cur s : ByteArray) (L : Es) (w : World) (e : Ending) (w' : World) : Prop :=
  (∃ n : Int, n ≠ 0 ∧ e = .returned (.int .i64 n) ∧ Below w.heap.size w w' ∧ (PN false ∨ (∃ b ∈ Bs, b.nm = s) ∨ 6 ≤ Bs.length)) ∨
  (e = .returned (.int .i64 0) ∧ (∀ b ∈ Bs, b.nm ≠ s) ∧ (∃ nb : Br, nb.nm = s ∧ nb.Ls = [L] ∧ nb.p = 0 ∧ nb.bs = L ∧ BookAt w' lo bb (nb :: Bs) cur) ∧ Mv lo w w' ∧ PN true)

set_option maxRecDepth 4000 in
set_option maxHeartbeats 4000000 in
theorem fork_any (PN : Bool → Prop) (lo bb : Nat) (Bs : List Br) (c : Br) (hc : c ∈ Bs) (s : ByteArray) (hs : s.size ≤ 281474976710656) (w : World) (hl : lo ≤ w.heap.size) (h : BookAt w lo bb Bs c.nm) (hN : Calls Tryz.prog 35 #[.string s] w fun e w' => ∃ o : Bool, e = .returned (.bool o) ∧ Hid (PN o) ∧ Below w.heap.size w w') :
    Calls Tryz.prog 15 #[.pointer (some ⟨bb, 0, none⟩), .string s] w (ForkP PN lo bb Bs c.nm s (c.Ls.getD c.p []) w) := by
  have hs' : s.size ≤ maxLen := Nat.le_trans hs (by decide)
  go_enter Tryz.func15, Tryz.ntmps15
  go_wp2_with (go_at_call 35; fail)
  refine hN.mono ?_
  rintro e w1 ⟨o, rfl, hPo, hb1⟩
  have hk := h.later hb1
  obtain ⟨mb, D, c0, c1, -, h2, h3, l3⟩ := hk.cells
  cases o with
  | false =>
    clear h2 h3
    go_wp2
    go_ret
    exact .inl ⟨120, by decide, rfl, hb1, .inl hPo⟩
  | true =>
    by_cases hin : ∃ b ∈ Bs, b.nm = s
    · obtain ⟨b, hb, rfl⟩ := hin
      have hr := look_yes h2 h3 hb hs'
      have hin' : Hid (∃ x ∈ Bs, x.nm = b.nm) := ⟨b, hb, rfl⟩
      clear h2 h3 hb
      go_wp2
      go_ret
      exact .inl ⟨121, by decide, rfl, hb1, .inr (.inl hin'.out)⟩
    have hn : ∀ b ∈ Bs, b.nm ≠ s := fun b hb e => hin ⟨b, hb, e⟩
    have hHn : Hid (∀ b ∈ Bs, b.nm ≠ s) := hn
    have hr := look_not h2 h3 hn hs'
    have hlen := h2.len bmapT
    rw [h3.size] at hlen
    clear hin hn
    by_cases h6 : 6 ≤ Bs.length
    · have h6' : (6 : Int) ≤ (Bs.length : Int) := by omega
      clear h2 h3
      go_wp2
      go_ret
      exact .inl ⟨123, by decide, rfl, hb1, .inr (.inr h6)⟩
    have h6' : ¬ (6 : Int) ≤ (Bs.length : Int) := by omega
    have h6n : Bs.length < 6 := by omega
    have hc0 : ∀ X, Below w1.heap.size w1 X → X.cell? ⟨bb, 0, none⟩ = some (.map (some mb)) := fun X hX => (hX.cell (p := ⟨bb, 0, none⟩) hk.lt).trans c0
    have B0 : Below w1.heap.size w1 w1.drew := (Below.refl _ _).drew
    have cD := hc0 _ B0
    have hH2 : Hid (w1.ownsMap Tryz.prog 9 bR mb Bs.length D) := h2
    have hH3 : Hid (Ties D Bs) := h3
    have hHk : Hid (BookAt w1 lo bb Bs c.nm) := hk
    clear h h2 h3 hk hN
    go_wp2
    go_region_law (first
      | (go_simp; go_at_call 36; refine (sclone s hs _).mono ?_; rintro e wC ⟨rfl, hbC⟩; first
          | (have hBC2 := below_step hBF hbC; have cC2 := hc0 _ hBC2; have hBr2 := hBr.later hbC; obtain ⟨w8, hrun8, hown8, hg8⟩ := (ownsMap_later hH2.out hBC2).update bkey bmapT (by unfold maxLen; omega) (bkeyOf hs') (show bR (.pointer (some ⟨xb, 0, none⟩)) = some (.held xb, []) from rfl))
          | (have hBC := below_step hBI hbC; have cC := hc0 _ hBC; have hmC := hmI.later hbC)
          | (have hBC := below_step B0 hbC; have cC := hc0 _ hBC))
      | (go_simp; go_at_call 22; refine (inputs_any lo bb Bs c hc _ (hHk.out.later (by first | exact hBC | exact B0))).mono ?_; rintro e wI ⟨mI, rfl, hmI, hbI⟩; first
          | (have hBI := below_step hBC hbI; have cI := hc0 _ hBI)
          | (have hBI := below_step B0 hbI; have cI := hc0 _ hBI))
      | (go_simp; go_at_call 33; refine (forked_any s hs' _ (c.Ls.getD c.p []) _ (by first | exact hmC | exact hmI)).mono ?_; rintro e wF ⟨xb, hb, rfl, hBr, hxb, hhb, hbF⟩; first
          | (have hBF := below_step hBC hbF; have cF := hc0 _ hBF; have hhb' := Nat.le_trans hBC.size hhb; obtain ⟨w9, hrun9, hown9, hg9⟩ := (ownsMap_later hH2.out hBF).update bkey bmapT (by unfold maxLen; omega) (bkeyOf hs') (show bR (.pointer (some ⟨xb, 0, none⟩)) = some (.held xb, []) from rfl))
          | (have hBF := below_step hBI hbF; have cF := hc0 _ hBF; have hhb' := Nat.le_trans hBI.size hhb; obtain ⟨w9, hrun9, hown9, hg9⟩ := (ownsMap_later hH2.out hBF).update bkey bmapT (by unfold maxLen; omega) (bkeyOf hs') (show bR (.pointer (some ⟨xb, 0, none⟩)) = some (.held xb, []) from rfl))))
    all_goals
      go_wp2
      go_ret
      first
        | (have k := hHk.out.added (Nat.le_trans hl hb1.size) c0 hH2.out hH3.out hBC2 hBr2 hhb' hHn.out h6n hg8 hown8; exact .inr ⟨rfl, hHn.out, ⟨_, rfl, rfl, rfl, rfl, k.1⟩, k.2.behind hb1, hPo.out⟩)
        | (have k := hHk.out.added (Nat.le_trans hl hb1.size) c0 hH2.out hH3.out hBF hBr hhb' hHn.out h6n hg9 hown9; exact .inr ⟨rfl, hHn.out, ⟨_, rfl, rfl, rfl, rfl, k.1⟩, k.2.behind hb1, hPo.out⟩)

end Go.Proofs.YtblfdjdhikfjhaaGreat

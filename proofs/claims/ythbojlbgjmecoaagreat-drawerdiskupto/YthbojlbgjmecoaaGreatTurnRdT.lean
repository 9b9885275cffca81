import Derived.Test.YthbojlbgjmecoaaGreatJoin43
import Derived.Deep.RegionHeld3
/- A room's copy of files. -/
namespace Go.Proofs.YthbojlbgjmecoaaGreat.DJ
open Go.RowKit
set_option linter.constructorNameAsVariable false

/-- A room that has lists of bytes and of files alone. -/
def rmRow (vb vf : Value) : Obj := .cells #[vb, .slice none 0 0, .slice none 0 0, .slice none 0 0, .slice none 0 0, .slice none 0 0, .slice none 0 0, .slice none 0 0, .slice none 0 0, .slice none 0 0, .slice none 0 0, .slice none 0 0, .slice none 0 0, vf, .slice none 0 0, .slice none 0 0, .slice none 0 0, .slice none 0 0, .slice none 0 0, .slice none 0 0, .slice none 0 0] 65 (0, 0)
/-- A list of bytes with its marks: what it says, its block, its room. -/
def bV (E : List (Fi × Nat × Nat)) : List Value := E.map fun x => .slice (some ⟨x.2.1, 0, none⟩) (x.1.dat.length + 600) x.2.2
def fV (E : List (Fi × Nat × Nat)) : List Value := E.flatMap fun x => [.string (strB x.1.nm), .slice (some ⟨x.2.1, 0, none⟩) x.1.dat.length (x.1.dat.length + 600), .int .i64 x.1.syn]
theorem fV_snoc (E : List (Fi × Nat × Nat)) (x : Fi × Nat × Nat) : fV (E ++ [x]) = fV E ++ [.string (strB x.1.nm), .slice (some ⟨x.2.1, 0, none⟩) x.1.dat.length (x.1.dat.length + 600), .int .i64 x.1.syn] := by unfold fV; rw [List.flatMap_append]; rfl
theorem fV_get : ∀ (E : List (Fi × Nat × Nat)) (i : Nat) (h : i < E.length), (fV E)[i * 3]? = some (.string (strB E[i].1.nm)) ∧ (fV E)[i * 3 + 1]? = some (.slice (some ⟨E[i].2.1, 0, none⟩) E[i].1.dat.length (E[i].1.dat.length + 600)) ∧ (fV E)[i * 3 + 2]? = some (.int .i64 E[i].1.syn)
  | d :: D, 0, _ => ⟨rfl, rfl, rfl⟩
  | d :: D, i + 1, h => by
    have := fV_get D i (by simpa using h)
    rw [show (i + 1) * 3 = i * 3 + 3 by omega]
    exact this
theorem fV_len (E : List (Fi × Nat × Nat)) : (fV E).length = E.length * 3 := by
  induction E with
  | nil => rfl
  | cons x E ih =>
    rw [show fV (x :: E) = [.string (strB x.1.nm), .slice (some ⟨x.2.1, 0, none⟩) x.1.dat.length (x.1.dat.length + 600), .int .i64 x.1.syn] ++ fV E from rfl, List.length_append, ih, List.length_cons]
    show 3 + E.length * 3 = (E.length + 1) * 3
    omega
structure RmB (W : World) (lo R : Nat) (E : List (Fi × Nat × Nat)) (vb vf : Value) : Prop where
  row : W.heap[R]? = some (rmRow vb vf)
  own : W.ownsRow lo 34 1 vb E.length (bV E)
  dat : ∀ x ∈ E, W.ownsRow lo 5 1 (.slice (some ⟨x.2.1, 0, none⟩) (x.1.dat.length + 600) x.2.2) (x.1.dat.length + 600) (bysV x.1.dat ++ mksB 600)
  dif : E.Pairwise fun x y => x.2.1 ≠ y.2.1
  byt : ∀ x ∈ E, ∀ y ∈ x.1.dat, y < 256
theorem RmB.lt {W : World} {lo R : Nat} {E : List (Fi × Nat × Nat)} {vb vf : Value} (h : RmB W lo R E vb vf) : R < W.heap.size := (Array.getElem?_eq_some_iff.1 h.row).1
theorem RmB.new (W : World) (lo : Nat) : RmB (W.alloc (rmRow (.slice none 0 0) (.slice none 0 0))) lo W.heap.size [] (.slice none 0 0) (.slice none 0 0) :=
  ⟨heap_alloc_new _ _, World.ownsRow_nil _ _ _ _, fun x hx => (by cases hx), List.Pairwise.nil, fun x hx => (by cases hx)⟩
theorem RmB.cell {W : World} {lo R : Nat} {E : List (Fi × Nat × Nat)} {vb vf : Value} (h : RmB W lo R E vb vf) : W.cell? ⟨R, 0, none⟩ = some vb ∧ W.cell? ⟨R, 13, none⟩ = some vf ∧ (∀ j, W.frozen? ⟨R, j, none⟩ = false) ∧ ∀ j, j < 21 → j ≠ 0 → j ≠ 13 → W.cell? ⟨R, j, none⟩ = some (.slice none 0 0) := by
  have hr := h.row
  unfold rmRow at hr
  refine ⟨cell_of_row _ _ 0 _ _ _ hr, cell_of_row _ _ 13 _ _ _ hr, fun j => frozen_of_row _ _ j _ _ hr, fun j hj h0 h13 => ?_⟩
  rw [cell_of_row _ _ j _ _ _ hr]
  rcases (show j = 1 ∨ j = 2 ∨ j = 3 ∨ j = 4 ∨ j = 5 ∨ j = 6 ∨ j = 7 ∨ j = 8 ∨ j = 9 ∨ j = 10 ∨ j = 11 ∨ j = 12 ∨ j = 14 ∨ j = 15 ∨ j = 16 ∨ j = 17 ∨ j = 18 ∨ j = 19 ∨ j = 20 by omega) with rfl | rfl | rfl | rfl | rfl | rfl | rfl | rfl | rfl | rfl | rfl | rfl | rfl | rfl | rfl | rfl | rfl | rfl | rfl <;> rfl
theorem tag_off {W : World} {g : Nat} {cs : Array Value} {t t' : TypeId} {base n size : Nat} {v : Value} {xs : List Value} (hg : W.heap[g]? = some (.cells cs t (0, 0))) (ho : W.ownsRow base t' size v n xs) (hne : t ≠ t') : v.ownBlock ≠ some g := fun e => by
  obtain ⟨-, cs', r⟩ := own_rowT ho e
  rw [hg] at r
  injection r with r
  injection r with _ r _
  exact hne r
/-- Blocks that are none of the room's change. -/
theorem RmB.grS {S : Nat → Prop} {W W' : World} {lo R : Nat} {E : List (Fi × Nat × Nat)} {vb vf : Value} (h : RmB W lo R E vb vf) (hg : GrS S W W') (hR : ¬ S R) (hS : ∀ g cs, lo ≤ g → W.heap[g]? = some (.cells cs 5 (0, 0)) ∨ W.heap[g]? = some (.cells cs 34 (0, 0)) → ¬ S g) : RmB W' lo R E vb vf :=
  ⟨(hg.block R h.lt hR).trans h.row, hg.own h.own (fun g e => by obtain ⟨q, cs, r⟩ := own_rowT h.own e; exact hS g cs q (.inr r)), fun x hx => hg.own (h.dat x hx) (fun g e => by obtain ⟨q, cs, r⟩ := own_rowT (h.dat x hx) e; exact hS g cs q (.inl r)), h.dif, h.byt⟩
theorem RmB.later {W W' : World} {lo R : Nat} {E : List (Fi × Nat × Nat)} {vb vf : Value} (h : RmB W lo R E vb vf) (hb : Below W.heap.size W W') : RmB W' lo R E vb vf := h.grS (S := fun _ => False) (.of_below hb) (fun h => h) (fun _ _ _ _ h => h)
theorem GrS.past {S S' : Nat → Prop} {W X Y : World} (h : GrS S W X) (h' : GrS S' X Y) (hs : ∀ z, S' z → S z ∨ W.heap.size ≤ z) : GrS S W Y := ⟨h'.os.trans h.os, h'.tape.trans h.tape, h'.output.trans h.output, Nat.le_trans h.size h'.size, fun k hk hn => (h'.block k (Nat.lt_of_lt_of_le hk h.size) (fun e => (hs k e).elim hn (fun q => by omega))).trans (h.block k hk hn)⟩
/-- A row of files grows. -/
theorem RmB.filed {W W' : World} {lo R n : Nat} {E : List (Fi × Nat × Nat)} {vb vf v : Value} {xs : List Value} (h : RmB W lo R E vb vf) (ho : W.ownsRow lo 74 3 v n xs) (hg : W.grownBy W' v.ownBlock) : RmB W' lo R E vb vf := by
  have hr := h.row
  unfold rmRow at hr
  exact h.grS (S := fun z => v.ownBlock = some z) (.of_grown' hg (fun z e => e)) (tag_off hr ho (by decide)) (fun g cs _ hc => hc.elim (fun hc => tag_off hc ho (by decide)) (fun hc => tag_off hc ho (by decide)))
theorem RmB.off {W : World} {lo R : Nat} {E : List (Fi × Nat × Nat)} {vb vf : Value} (h : RmB W lo R E vb vf) {base n size : Nat} {t : TypeId} {v : Value} {xs : List Value} (ho : W.ownsRow base t size v n xs) (ht : t ≠ 65) : ∀ k, v.ownBlock = some k → ¬ k = R := fun k e e2 => by
  have hr := h.row
  unfold rmRow at hr
  exact tag_off hr ho (fun q => ht q.symm) (e2 ▸ e)
theorem RmB.setF {W : World} {lo R : Nat} {E : List (Fi × Nat × Nat)} {vb vf : Value} (h : RmB W lo R E vb vf) (vf' : Value) : RmB (W.setCell ⟨R, 13, none⟩ vf') lo R E vb vf' := by
  have hS := grS_set W R 13 vf'
  have hr := h.row
  unfold rmRow at hr
  refine ⟨?_, hS.own h.own (h.off h.own (by decide)), fun x hx => hS.own (h.dat x hx) (h.off (h.dat x hx) (by decide)), h.dif, h.byt⟩
  rw [heap_setCell_same _ _ _ _ _ _ hr]
  rfl
/-- What Bytes has laid into it. -/
theorem RmB.snoc {W Wm : World} {lo R : Nat} {E : List (Fi × Nat × Nat)} {vb vf vb' : Value} {f : Fi} {g c : Nat} (h : RmB W lo R E vb vf) (hlo : lo ≤ W.heap.size) (hb : ∀ y ∈ f.dat, y < 256) (hG : GrS (fun z => vb.ownBlock = some z) W Wm) (ho : Wm.ownsRow W.heap.size 5 1 (.slice (some ⟨g, 0, none⟩) (f.dat.length + 600) c) (f.dat.length + 600) (bysV f.dat ++ mksB 600)) (hv : Wm.ownsRow lo 34 1 vb' (E.length + 1) (bV E ++ [.slice (some ⟨g, 0, none⟩) (f.dat.length + 600) c])) : RmB (Wm.setCell ⟨R, 0, none⟩ vb') lo R (E ++ [(f, g, c)]) vb' vf := by
  have hr := h.row
  unfold rmRow at hr
  have hRv : ¬ vb.ownBlock = some R := tag_off hr h.own (by decide)
  have hrm := (hG.block R h.lt hRv).trans hr
  have hS := grS_set Wm R 0 vb'
  have hne : ∀ {base n size : Nat} {t : TypeId} {v : Value} {xs : List Value}, Wm.ownsRow base t size v n xs → t ≠ 65 → ∀ k, v.ownBlock = some k → ¬ k = R := fun ho ht k e e2 => tag_off hrm ho (fun q => ht q.symm) (e2 ▸ e)
  refine ⟨?_, ?_, fun x hx => ?_, ?_, fun x hx => ?_⟩
  · rw [heap_setCell_same _ _ _ _ _ _ hrm]
    rfl
  · rw [List.length_append, List.length_singleton, show bV (E ++ [(f, g, c)]) = bV E ++ [.slice (some ⟨g, 0, none⟩) (f.dat.length + 600) c] by unfold bV; rw [List.map_append]; rfl]
    exact hS.own hv (hne hv (by decide))
  · rcases List.mem_append.1 hx with hx | hx
    · have := hG.own (h.dat x hx) (fun k e e2 => by
        obtain ⟨-, cs', r⟩ := own_rowT (h.dat x hx) e
        exact tag_off r h.own (by decide) e2)
      exact hS.own this (hne this (by decide))
    · rw [List.mem_singleton.1 hx]
      exact (hS.own ho (hne ho (by decide))).mono hlo
  · refine List.pairwise_append.2 ⟨h.dif, List.pairwise_singleton _ _, fun x hx y hy => ?_⟩
    rw [List.mem_singleton.1 hy]
    have h1 := ((h.dat x hx).lt x.2.1 rfl).2
    have h2 := (ho.lt g rfl).1
    show x.2.1 ≠ g
    omega
  · rcases List.mem_append.1 hx with hx | hx
    · exact h.byt x hx
    · rw [List.mem_singleton.1 hx]; exact hb
/-- The marks behind a list of files. -/
def mkF (k : Nat) : List Value := [.string ⟨#[]⟩, .slice none 0 0, .int .i64 (if k % 2 = 0 then -7701 else -7702)]
def mksF (k : Nat) : List Value := (List.range k).flatMap mkF
theorem infoSf : (Tryz.prog.info? 22).map (fun i => (i.zero, i.size, i.bytes)) = some (some (.slice none 0 0), 1, 24) := by kernel_rfl
theorem mksF_two (k : Nat) (h : k % 2 = 0) : mksF (k + 2) = mksF k ++ ([.string ⟨#[]⟩, .slice none 0 0, .int .i64 (-7701)] ++ [.string ⟨#[]⟩, .slice none 0 0, .int .i64 (-7702)]) := by
  unfold mksF
  rw [List.range_succ, List.range_succ, List.flatMap_append, List.flatMap_append]
  simp only [List.flatMap_cons, List.flatMap_nil, List.append_nil, List.append_assoc]
  unfold mkF
  rw [if_pos h, if_neg (by omega)]
set_option maxRecDepth 100000 in
set_option maxHeartbeats 8000000 in
theorem rfl_any (L : List Fi) (hf : ∀ f ∈ L, FiB 1048576 f) (h40 : L.length ≤ 1048576) (R : Nat) (a : Option Addr) (cap : Nat) (w : World) (hA : ∀ Y, GrS (fun z => z = R) w Y → FiAt Y a L) (hAR : L = [] ∨ ∀ q, a = some q → q.block ≠ R ∧ q.block < w.heap.size) (hR : RmB w w.heap.size R [] (.slice none 0 0) (.slice none 0 0)) : Calls Tryz.prog 9 #[.pointer (some ⟨R, 0, none⟩), .slice a L.length cap] w fun e W' => ∃ (g capF : Nat) (E : List (Fi × Nat × Nat)) (vb vf : Value), e = .returned (.slice (some ⟨g, 0, none⟩) L.length (L.length + 40)) ∧ E.map Prod.fst = L ∧ RmB W' w.heap.size R E vb vf ∧ W'.ownsRow w.heap.size 74 3 (.slice (some ⟨g, 0, none⟩) (L.length + 40) capF) (L.length + 40) (fV E ++ mksF 40) ∧ W'.ownsRow w.heap.size 22 1 vf 1 [.slice (some ⟨g, 0, none⟩) (L.length + 40) capF] ∧ GrS (fun z => z = R) w W' := by
  obtain ⟨i0, hi, hz0, hz1, hz2⟩ := info_parts infoFf
  have hrow0 := World.ownsRow_lit (base := w.heap.size) (e := 74) (size := 3) w #[] 0 (Nat.le_refl _) (by unfold maxLen; omega) rfl
  have hB0 : Below w.heap.size w (w.alloc (.cells #[] 74)) := (Below.refl _ _).alloc (Nat.le_refl _) _
  have hR0 := hR.later hB0
  have hG0 : GrS (fun z => z = R) w (w.alloc (.cells #[] 74)) := .of_below hB0
  have hI0 : Hid (∃ E vb, E.map Prod.fst = L.take 0 ∧ RmB (w.alloc (.cells #[] 74)) w.heap.size R E vb (.slice none 0 0) ∧ (w.alloc (.cells #[] 74)).ownsRow w.heap.size 74 3 (.slice (some ⟨w.heap.size, 0, none⟩) 0 0) 0 (fV E) ∧ GrS (fun z => z = R) w (w.alloc (.cells #[] 74))) := ⟨[], _, rfl, hR0, hrow0, hG0⟩
  have hRlt := hR.lt
  clear hrow0 hB0 hR0 hG0
  go_enter Tryz.func9, Tryz.ntmps9
  go_wp2
  go_loopw [5, 6] (fun v x wr => ∃ i : Nat, i ≤ L.length ∧ x = .int .i64 i ∧ ∃ E vb, E.map Prod.fst = L.take i ∧ RmB wr w.heap.size R E vb (.slice none 0 0) ∧ wr.ownsRow w.heap.size 74 3 v i (fV E) ∧ GrS (fun z => z = R) w wr) (fun _ x _ => L.length - (intOf x).toNat)
  case atStart => exact ⟨0, by omega, rfl, hI0.out⟩
  case round =>
    clear hI0 hR
    obtain ⟨i, hi2, rfl, E, vb, hE, hRm, ho, hG⟩ := hrel
    have hEl : E.length = i := by
      have := congrArg List.length hE
      simp at this
      omega
    by_cases hlt : i < L.length
    · have hlt' : (i : Int) < (L.length : Int) := by omega
      have hi0 : (0 : Int) ≤ (i : Int) := by omega
      obtain ⟨ua, uc, rfl⟩ := own_lenB ho
      have hfi := hf L[i] (List.getElem_mem hlt)
      obtain ⟨b, off, rfl, hbl, hc⟩ := (hA wr hG).resolve_left (fun e => by rw [e] at hlt; simp at hlt)
      obtain ⟨hbR, hbw⟩ : b ≠ R ∧ b < w.heap.size := hAR.resolve_left (fun e => by rw [e] at hlt; simp at hlt) _ rfl
      obtain ⟨q0, ⟨p, c, q1, hpc, hlc, hby⟩, q2⟩ := hc i hlt
      have hS1 : L.take (i + 1) = L.take i ++ [L[i]] := List.take_succ_eq_append_getElem hlt
      clear hc
      generalize L[i] = f at *
      obtain ⟨sn, hsn⟩ : ∃ sn, strB f.nm = sn := ⟨_, rfl⟩
      rw [hsn] at q0
      have hws : w.heap.size ≤ wr.heap.size := hG.size
      have hbd : Below wr.heap.size wr wr.drew := (Below.refl _ _).drew
      have hbyt := hby.1
      have hRm0 := hRm.later hbd
      obtain ⟨m0, m13, mf, -⟩ := hRm0.cell
      have hBy := rbytes_any R w.heap.size i vb (bV E) wr.drew p c f.dat (hby.later hbd) hfi.dl (by omega) (by have := hRm0.own; rw [hEl] at this; exact this) hws m0 (mf 0) (by have hr := hRm0.row; unfold rmRow at hr; exact tag_off hr hRm0.own (by decide))
      have hK : Hid (∀ Y, GrS (fun z => z = R ∨ wr.heap.size ≤ z ∨ vb.ownBlock = some z) wr Y → Y.cell? ⟨b, off + i * 3, none⟩ = some (.string sn) ∧ Y.cell? ⟨b, off + i * 3 + 1, none⟩ = some (.slice p f.dat.length c) ∧ Y.cell? ⟨b, off + i * 3 + 2, none⟩ = some (.int .i64 f.syn)) := ⟨fun Y hY => by
        have hq : Y.heap[b]? = wr.heap[b]? := hY.block b hbl (fun e => by
          rcases e with e | e | e
          · exact hbR e
          · omega
          · have := (own_rowT hRm.own e).1
            omega)
        exact ⟨(World.cell?_of_block (a := ⟨b, off + i * 3, none⟩) hq).trans q0, (World.cell?_of_block (a := ⟨b, off + i * 3 + 1, none⟩) hq).trans q1, (World.cell?_of_block (a := ⟨b, off + i * 3 + 2, none⟩) hq).trans q2⟩⟩
      have hS0 : wr.drew.cell? ⟨b, off + i * 3, none⟩ = some (.string sn) ∧ wr.drew.cell? ⟨b, off + i * 3 + 1, none⟩ = some (.slice p f.dat.length c) ∧ wr.drew.cell? ⟨b, off + i * 3 + 2, none⟩ = some (.int .i64 f.syn) := ⟨q0, q1, q2⟩
      have hOn : Hid (∀ g cN vb' Wm w8, w8 = Wm.setCell ⟨R, 0, none⟩ vb' → GrS (fun z => vb.ownBlock = some z) wr.drew Wm → Wm.ownsRow wr.drew.heap.size 5 1 (.slice (some ⟨g, 0, none⟩) (f.dat.length + 600) cN) (f.dat.length + 600) (bysV f.dat ++ mksB 600) → Wm.ownsRow w.heap.size 34 1 vb' (i + 1) (bV E ++ [.slice (some ⟨g, 0, none⟩) (f.dat.length + 600) cN]) → RmB w8 w.heap.size R (E ++ [(f, g, cN)]) vb' (.slice none 0 0) ∧ w8.ownsRow w.heap.size 74 3 (.slice ua i uc) i (fV E) ∧ GrS (fun z => z = R) w w8 ∧ w8.cell? ⟨b, off + i * 3, none⟩ = some (.string sn) ∧ w8.cell? ⟨b, off + i * 3 + 1, none⟩ = some (.slice p f.dat.length c) ∧ w8.cell? ⟨b, off + i * 3 + 2, none⟩ = some (.int .i64 f.syn)) := ⟨fun g cN vb' Wm w8 h1 h2 h3 h4 => by
        subst h1
        have hr := hRm0.row
        unfold rmRow at hr
        have hg2 : GrS (fun z => z = R ∨ vb.ownBlock = some z) wr (Wm.setCell ⟨R, 0, none⟩ vb') := ((GrS.of_below hbd).trans (h2.mono (fun _ _ h => .inr h))).trans ((grS_set Wm R 0 vb').mono (fun _ _ h => .inl h))
        refine ⟨RmB.snoc hRm0 hws hbyt h2 h3 (by rw [hEl]; exact h4), hg2.own ho (fun k e e2 => ?_), hG.past hg2 (fun z e => ?_), hK.out _ (hg2.mono (fun _ _ h => h.elim .inl (fun e => .inr (.inr e))))⟩
        · rcases e2 with e2 | e2
          · exact tag_off hr ho (by decide) (e2 ▸ e)
          · obtain ⟨-, cs, t⟩ := own_rowT hRm.own e2
            exact tag_off t ho (by decide) e
        · rcases e with e | e
          · exact .inl e
          · exact .inr (own_rowT hRm.own e).1⟩
      replace hRm := Hid.mk hRm
      replace hG := Hid.mk hG
      replace hbyt := Hid.mk hbyt
      replace hsn := Hid.mk hsn
      replace hfi := Hid.mk hfi
      clear hA hAR hRm0 m0 m13 mf hby ho hf hK
      go_upto_region 5 with fail
      go_region_held3 (fun Y => Y.cell? ⟨b, off + i * 3, none⟩ = some (.string sn) ∧ Y.cell? ⟨b, off + i * 3 + 1, none⟩ = some (.slice p f.dat.length c) ∧ Y.cell? ⟨b, off + i * 3 + 2, none⟩ = some (.int .i64 f.syn)) (with_reducible assumption) (first | (go_at_call 13; refine hBy.mono ?_; rintro e w8 ⟨g, cN, vb', Wm, rfl, hw8, hGm, hod, hov, -⟩; obtain ⟨hR8, ho8, hG8, hS8⟩ := hOn.out g cN vb' Wm w8 hw8 hGm hod hov; have A8 : Below w8.heap.size w8 (w8.alloc (.cells #[.string sn, .slice (some ⟨g, 0, none⟩) f.dat.length (f.dat.length + 600), .int .i64 f.syn] 74)) := (Below.refl _ _).alloc (Nat.le_refl _) _; have ho9 := own_later ho8 A8; have hS9 : (w8.alloc (.cells #[.string sn, .slice (some ⟨g, 0, none⟩) f.dat.length (f.dat.length + 600), .int .i64 f.syn] 74)).cell? ⟨b, off + i * 3, none⟩ = some (.string sn) ∧ (w8.alloc (.cells #[.string sn, .slice (some ⟨g, 0, none⟩) f.dat.length (f.dat.length + 600), .int .i64 f.syn] 74)).cell? ⟨b, off + i * 3 + 1, none⟩ = some (.slice p f.dat.length c) ∧ (w8.alloc (.cells #[.string sn, .slice (some ⟨g, 0, none⟩) f.dat.length (f.dat.length + 600), .int .i64 f.syn] 74)).cell? ⟨b, off + i * 3 + 2, none⟩ = some (.int .i64 f.syn) := ⟨(A8.cell (p := ⟨b, off + i * 3, none⟩) (World.block_lt_of_cell? _ _ hS8.1)).trans hS8.1, (A8.cell (p := ⟨b, off + i * 3 + 1, none⟩) (World.block_lt_of_cell? _ _ hS8.2.1)).trans hS8.2.1, (A8.cell (p := ⟨b, off + i * 3 + 2, none⟩) (World.block_lt_of_cell? _ _ hS8.2.2)).trans hS8.2.2⟩; have hsz9 : w.heap.size ≤ (w8.alloc (.cells #[.string sn, .slice (some ⟨g, 0, none⟩) f.dat.length (f.dat.length + 600), .int .i64 f.syn] 74)).heap.size := Nat.le_trans hG8.size A8.size; replace hw8 := Hid.mk hw8; clear hGm hod hov; replace hR8 := Hid.mk (hR8.later A8); replace hG8 := Hid.mk (hG8.past (GrS.of_below (S := fun _ => False) A8) (fun _ h => h.elim))) | (refine step_append_own (P := Tryz.prog) _ rfl _ _ 22 rfl w.heap.size 74 i0 _ 3 48 Tryz.underlying22 hi hz0 hz1 hz2 rfl (by decide) _ i (fV E) rfl ho9 ⟨w8.heap.size, 0, none⟩ 1 1 [.string sn, .slice (some ⟨g, 0, none⟩) f.dat.length (f.dat.length + 600), .int .i64 f.syn] rfl rfl (lit_at w8 _ _) (by simp [Value.oneCell']) (by unfold maxLen; omega) (by omega) hsz9 ?_; intro v' w9 hown' hgrow; have hb9 := hgrow.block b (Nat.lt_of_lt_of_le hbw hsz9) (fun e => by have := (own_rowT ho9 e.symm).1; omega); have hS10 : w9.cell? ⟨b, off + i * 3, none⟩ = some (.string sn) ∧ w9.cell? ⟨b, off + i * 3 + 1, none⟩ = some (.slice p f.dat.length c) ∧ w9.cell? ⟨b, off + i * 3 + 2, none⟩ = some (.int .i64 f.syn) := ⟨(World.cell?_of_block (a := ⟨b, off + i * 3, none⟩) hb9).trans hS9.1, (World.cell?_of_block (a := ⟨b, off + i * 3 + 1, none⟩) hb9).trans hS9.2.1, (World.cell?_of_block (a := ⟨b, off + i * 3 + 2, none⟩) hb9).trans hS9.2.2⟩))
      have hR9 := hR8.out.filed ho9 hgrow
      have hG9 : GrS (fun z => z = R) w w9 := hG8.out.past (GrS.of_grown' (S := fun z => (Value.slice ua i uc).ownBlock = some z) hgrow (fun z e => e)) (fun z e => .inr (own_rowT ho9 e).1)
      have hE9 : (E ++ [(f, g, cN)]).map Prod.fst = L.take (i + 1) := by rw [List.map_append, hE, hS1]; rfl
      have ho10 : w9.ownsRow w.heap.size 74 3 v' (i + 1) (fV (E ++ [(f, g, cN)])) := by rw [fV_snoc]; rw [hsn.out]; exact hown'
      replace hR9 := Hid.mk hR9
      replace hE9 := Hid.mk hE9
      replace ho10 := Hid.mk ho10
      clear hS0 hS8 hS9 hS10 ho9 hgrow hown' hS1
      go_wp2
      go_roundw
      case rel => exact ⟨i + 1, by omega, by go_num, E ++ [(f, g, cN)], vb', hE9.out, hR9.out, ho10.out, hG9⟩
      case measure => simp [intOf]; omega
    · obtain rfl : i = L.length := by omega
      rw [List.take_length] at hE
      obtain ⟨ua, uc, rfl⟩ := own_lenB ho
      have hI1 : Hid (RmB wr w.heap.size R E vb (.slice none 0 0) ∧ wr.ownsRow w.heap.size 74 3 (.slice ua L.length uc) (L.length + 2 * 0) (fV E ++ mksF (2 * 0)) ∧ GrS (fun z => z = R) w wr) := ⟨hRm, by rw [show mksF (2 * 0) = [] from rfl, List.append_nil]; exact ho, hG⟩
      clear hA hAR hRm ho hG hf
      have hlI : (L.length : Int) ≤ 1048576 := by omega
      go_wp2
      go_loopw [5, 7] (fun v x wr => ∃ k : Nat, k ≤ 20 ∧ x = .int .i64 ((2 * k : Nat) : Int) ∧ RmB wr w.heap.size R E vb (.slice none 0 0) ∧ wr.ownsRow w.heap.size 74 3 v (L.length + 2 * k) (fV E ++ mksF (2 * k)) ∧ GrS (fun z => z = R) w wr) (fun _ x _ => (41 - intOf x).toNat)
      case atStart => exact ⟨0, by omega, rfl, hI1.out⟩
      case round =>
        clear hI1
        obtain ⟨k, hk, rfl, hRm, ho, hG⟩ := hrel
        obtain ⟨va2, vc2, rfl⟩ := own_lenB ho
        have hws : w.heap.size ≤ wr.heap.size := hG.size
        by_cases hk2 : k < 20
        · have hkk : ((2 * k : Nat) : Int) < 40 := by omega
          have A8 : Below wr.heap.size wr (wr.alloc (.cells #[.string ⟨#[]⟩, .slice none 0 0, .int .i64 (-7701), .string ⟨#[]⟩, .slice none 0 0, .int .i64 (-7702)] 74)) := (Below.refl _ _).alloc (Nat.le_refl _) _
          have ho9 := own_later ho A8
          have hR9 := Hid.mk (hRm.later A8)
          have hG9 := Hid.mk (hG.past (GrS.of_below (S := fun _ => False) A8) (fun _ h => h.elim))
          have hsz9 := Nat.le_trans hws A8.size
          clear hRm hG
          go_wp2_with (at_builtin; refine wpList_append_own _ rfl _ _ 22 rfl w.heap.size 74 i0 _ 3 48 Tryz.underlying22 hi hz0 hz1 hz2 rfl (by decide) _ _ _ rfl ho9 ⟨wr.heap.size, 0, none⟩ 2 2 [.string ⟨#[]⟩, .slice none 0 0, .int .i64 (-7701), .string ⟨#[]⟩, .slice none 0 0, .int .i64 (-7702)] rfl rfl (lit_at wr _ _) (fun u hu => by simp only [List.mem_cons, List.not_mem_nil, or_false] at hu; rcases hu with rfl | rfl | rfl | rfl | rfl | rfl <;> rfl) (by unfold maxLen; omega) (by omega) hsz9 ?_; intro v' w2 hown' hgrow _)
          have hR10 := Hid.mk (hR9.out.filed ho9 hgrow)
          have hG10 : GrS (fun z => z = R) w w2 := hG9.out.past (GrS.of_grown' (S := fun z => (Value.slice va2 (L.length + 2 * k) vc2).ownBlock = some z) hgrow (fun z e => e)) (fun z e => .inr (own_rowT ho9 e).1)
          clear ho9 ho
          go_roundw
          case rel =>
            refine ⟨k + 1, by omega, by go_num, hR10.out, ?_, hG10⟩
            rw [show 2 * (k + 1) = 2 * k + 2 by omega, mksF_two _ (by omega), ← List.append_assoc, ← Nat.add_assoc]
            exact hown'
          case measure => simp [intOf]; omega
        · obtain rfl : k = 20 := by omega
          obtain ⟨g, hee⟩ : ∃ g, va2 = some ⟨g, 0, none⟩ := by
            obtain ⟨g, c2, hee⟩ := own_someB ho (by omega)
            injection hee with e1 _ _
            exact ⟨g, e1⟩
          subst hee
          have hcN := own_capB ho
          obtain ⟨j0, kj, y0, y1, y2⟩ := info_parts infoSf
          obtain ⟨Y, hY⟩ : ∃ Y, wr.alloc (.cells #[.slice (some ⟨g, 0, none⟩) (L.length + 2 * 20) vc2] 22) = Y := ⟨_, rfl⟩
          have A8 : Below wr.heap.size wr Y := by rw [← hY]; exact (Below.refl _ _).alloc (Nat.le_refl _) _
          have hnew := one_at wr _ rfl (.slice (some ⟨g, 0, none⟩) (L.length + 2 * 20) vc2) 22
          rw [hY] at hnew
          have hoY := own_later ho A8
          have hRY := hRm.later A8
          have hGY := hG.past (GrS.of_below (S := fun _ => False) A8) (fun _ h => h.elim)
          have hszY := Nat.le_trans hws A8.size
          obtain ⟨-, m13, mfr, -⟩ := hRm.cell
          obtain ⟨-, n13, nfr, -⟩ := hRY.cell
          have hRl := hRY.lt
          have n13f := nfr 13
          have hSt : Hid (∀ g2 cap2 w2, w2.ownsRow w.heap.size 22 1 (.slice (some ⟨g2, 0, none⟩) 1 cap2) 1 [.slice (some ⟨g, 0, none⟩) (L.length + 2 * 20) vc2] → Y.grownBy w2 (Value.slice none 0 0).ownBlock → w2.cell? ⟨R, 13, none⟩ = some (.slice none 0 0) ∧ w2.frozen? ⟨R, 13, none⟩ = false ∧ RmB (w2.setCell ⟨R, 13, none⟩ (.slice (some ⟨g2, 0, none⟩) 1 cap2)) w.heap.size R E vb (.slice (some ⟨g2, 0, none⟩) 1 cap2) ∧ (w2.setCell ⟨R, 13, none⟩ (.slice (some ⟨g2, 0, none⟩) 1 cap2)).ownsRow w.heap.size 74 3 (.slice (some ⟨g, 0, none⟩) (L.length + 2 * 20) vc2) (L.length + 2 * 20) (fV E ++ mksF (2 * 20)) ∧ (w2.setCell ⟨R, 13, none⟩ (.slice (some ⟨g2, 0, none⟩) 1 cap2)).ownsRow w.heap.size 22 1 (.slice (some ⟨g2, 0, none⟩) 1 cap2) 1 [.slice (some ⟨g, 0, none⟩) (L.length + 2 * 20) vc2] ∧ GrS (fun z => z = R) w (w2.setCell ⟨R, 13, none⟩ (.slice (some ⟨g2, 0, none⟩) 1 cap2))) := ⟨fun g2 cap2 w2 h1 h2 => by
            have hb2 : Below Y.heap.size Y w2 := ⟨h2.os, h2.tape, h2.output, h2.size, fun z hz => h2.block z hz (by simp [Value.ownBlock])⟩
            have hR2 := hRY.later hb2
            obtain ⟨-, p13, pfr, -⟩ := hR2.cell
            have ho2 := own_later hoY hb2
            have hS := grS_set w2 R 13 (.slice (some ⟨g2, 0, none⟩) 1 cap2)
            exact ⟨p13, pfr 13, hR2.setF _, hS.own ho2 (hR2.off ho2 (by decide)), hS.own h1 (hR2.off h1 (by decide)), (hGY.past (GrS.of_below (S := fun _ => False) hb2) (fun _ h => h.elim)).trans hS⟩⟩
          have hEE := Hid.mk hE
          replace hY := Hid.mk hY
          clear hRm hG ho hoY hRY hGY A8 hE nfr mfr
          go_wp2_with (at_builtin; rw [hY.out]; refine wpList_append_own_at (P := Tryz.prog) Y rfl _ _ 56 rfl w.heap.size 22 j0 (.slice none 0 0) 1 24 Tryz.underlying56 kj y0 y1 y2 rfl (by decide) (.slice none 0 0) 0 [] rfl (World.ownsRow_nil _ _ _ _) ⟨wr.heap.size, 0, none⟩ 1 1 [.slice (some ⟨g, 0, none⟩) (L.length + 2 * 20) vc2] rfl rfl hnew (fun u hu => by rw [List.mem_singleton.1 hu]; rfl) (by unfold maxLen; omega) (by omega) hszY (fun v' w2 hown' hgrow _ hat => ?_); obtain ⟨g2, cap2, rfl⟩ := own_someB hown' (by omega); obtain ⟨s1, s2, s3, s4, s5, s6⟩ := hSt.out g2 cap2 w2 hown' hgrow; replace s3 := Hid.mk s3; replace s4 := Hid.mk s4; replace s5 := Hid.mk s5; replace s6 := Hid.mk s6)
          go_ret
          refine ⟨g, rfl, ?_⟩
          first | exact ⟨vc2, E, vb, _, hEE.out, s3.out, s4.out, s5.out, s6.out⟩ | exact ⟨vc2, E, hEE.out, vb, _, s3.out, s4.out, s5.out, s6.out⟩
end Go.Proofs.YthbojlbgjmecoaaGreat.DJ

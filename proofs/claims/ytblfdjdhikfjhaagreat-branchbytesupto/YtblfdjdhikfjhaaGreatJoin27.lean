import Derived.Test.YtblfdjdhikfjhaaGreatJoin26
import Derived.Test.YtblfdjdhikfjhaaGreatJoin18
import Derived.Maps.AppendAt
namespace Go.Proofs.YtblfdjdhikfjhaaGreat.BZ
open Go.RowKit

/-- A branch with these contents. -/
def VX (nm : ByteArray) (nl : List UInt8) (W W' : World) (x : Bc) (v : Value) : Prop := x.nm = nl ∧ ∃ xb hb, v = .pointer (some ⟨xb, 0, none⟩) ∧ BrAt W' ⟨nm, xb, hb, x.Ls, x.p, x.bs⟩ ∧ W.heap.size ≤ hb
theorem gr_hist {rb hb : Nat} {W X Y : World} (h : Gr rb W X) (hl : W.heap.size ≤ hb) (hg : X.grownBy Y (some hb)) : Gr rb W Y :=
  ⟨hg.os.trans h.os, hg.tape.trans h.tape, hg.output.trans h.output, Nat.le_trans h.size hg.size, fun k hk hne => (hg.block k (Nat.lt_of_lt_of_le hk h.size) (fun e => by cases e; omega)).trans (h.block k hk hne)⟩
/-- What is read from here on is what the whole is. -/
def Cv (nm : List UInt8) (t : List UInt8) (bad : Bool) (bs : Es) (u : Nat) (pre : List Es) (k : Nat) (m : Es) (t1 : List UInt8) (b1 : Bool) : Prop := ∀ b2 t2 vs, Xq (rCn k m t1) b1 b2 t2 vs → Xq (rBr nm t) bad b2 t2 ⟨nm, bs, pre ++ vs, u⟩
theorem Cv.step {nm t : List UInt8} {bad : Bool} {bs : Es} {u : Nat} {pre : List Es} {k : Nat} {m v : Es} {t1 t2 : List UInt8} {b1 b2 : Bool} (h : Cv nm t bad bs u pre (k + 1) m t1 b1) (hX : Xq (rD m t1) b1 b2 t2 v) : Cv nm t bad bs u (pre ++ [v]) k v t2 b2 := fun b3 t3 vs hq => by
  have := h b3 t3 (v :: vs) (hX.bd (hq.bd Xq.pure))
  rw [List.append_assoc]
  exact this

set_option maxRecDepth 4000 in
set_option maxHeartbeats 4000000 in
theorem rbranch_any (nm : ByteArray) (hnm : nm.size ≤ maxLen) (nl : List UInt8) (rb : Nat) (W : World) {t : List UInt8} {bad : Bool} (hl : t.length ≤ 9223372036854775806) (h : RAt W rb t bad) : Calls Tryz.prog 53 #[.pointer (some ⟨rb, 0, none⟩)] W (Xc (rBr nl) (VX nm nl) rb t bad W) := by
  go_enter Tryz.func53, Tryz.ntmps53
  go_wp2_with (go_at_call 14; fail)
  refine (empty_any W).mono ?_
  rintro e w1 ⟨rfl, hT1, hb1⟩
  have hm1 : MapE w1 W.heap.size [] := ⟨.nil, hT1, rfl⟩
  have hR1 := h.later hb1
  have hG1 : Gr rb W w1 := Gr.of_below hb1
  have hk := rdiff_any rb W.heap.size [] w1 hl hR1 hm1
  clear hT1 hb1 h
  go_wp2_with (go_at_call 75; fail)
  refine hk.mono ?_
  rintro e w2 ⟨bs, v2, t2, b2, rfl, ⟨bb, rfl, hB2⟩, hR2, hG2, hX2⟩
  have hl2 := hX2.short (sh_D _) hR2
  have hG02 := hG1.trans hG2
  have hb := rbet_any rb 0 32 w2 (by omega) hR2
  have hrw2 := hR2.rw
  clear hk hm1 hR1
  go_wp2_with (go_at_call 51; fail)
  refine hb.mono ?_
  intro e w3 hx
  obtain ⟨u, t3, b3, rfl, hu, hR3, hG3, hX3⟩ := hx.outB
  have hu := hu.out
  have hl3 := hX3.short (sh_B _ _) hR3
  have hB3 := mapE_rw hB2 hrw2 hG3
  have hG03 := hG02.trans hG3
  have hsub : ((32 : Int) - (u : Int)) = ((32 - u : Nat) : Int) := by omega
  have hwr : IntKind.u64.wrap ((32 : Int) - (u : Int)) = ((32 - u : Nat) : Int) := by rw [IntKind.wrap_u64]; omega
  have hb := rbet_any rb 0 (32 - u) w3 (by omega) hR3
  have hrw3 := hR3.rw
  clear hx hR2 hB2
  go_wp2_with (go_at_call 51; fail)
  refine hb.mono ?_
  intro e w4 hx
  obtain ⟨r, t4, b4, rfl, hr, hR4, hG4, hX4⟩ := hx.outB
  have hr := hr.out
  have hl4 := hX4.short (sh_B _ _) hR4
  have hB4 := mapE_rw hB3 hrw3 hG4
  have hG04 := hG03.trans hG4
  have hk := rdiff_any rb bb bs w4 (by omega) hR4 hB4
  have hrw4 := hR4.rw
  clear hx hb hR3 hB3 hsub hwr
  go_wp2_with (go_at_call 75; fail)
  refine hk.mono ?_
  rintro e w5 ⟨v, v5, t5, b5, rfl, ⟨vb, rfl, hV5⟩, hR5, hG5, hX5⟩
  have hl5 := hX5.short (sh_D _) hR5
  have hB5 := mapE_rw hB4 hrw4 hG5
  have hG05 := hG04.trans hG5
  have hrl := hR5.lt
  have hN := new_any vb v (by have := hV5.len; omega) w5 hV5
  have hCv : Hid (Cv nl t bad bs u [v] (u + r) v t5 b5) := fun b6 t6 vs hq => hX2.bd (hX3.bd (hX4.bd (hX5.bd (hq.bd Xq.pure))))
  clear hk hR4 hB4 hX2 hX3 hX4 hX5
  go_wp2_with (go_at_call 61; fail)
  refine hN.mono ?_
  rintro e w6 ⟨hb, rfl, hlb, hH6, hb6⟩
  have hR6 := hR5.later hb6
  have hB6 := hB5.later hb6
  have hV6 := hV5.later hb6
  have hG06 := hG05.trans (Gr.of_below hb6)
  have hWl : W.heap.size ≤ hb := Nat.le_trans hG05.size hlb
  have hrb : rb < hb := Nat.lt_of_lt_of_le hrl hlb
  obtain ⟨n, hn⟩ : ∃ n, u + r = n := ⟨_, rfl⟩
  have hn32 : n ≤ 32 := by omega
  have hsum : IntKind.u64.wrap ((u : Int) + (r : Int)) = (n : Int) := by rw [IntKind.wrap_u64]; omega
  rw [hn] at hCv
  have hHn : Hid (u + r = n) := hn
  clear hN hR5 hB5 hV5 hG05 hG04 hG03 hG02 hn hb6
  go_wp2
  go_loopw [6, 25] (fun vv iv wr => ∃ (i vb : Nat) (m : Es) (pre : List Es) (t1 : List UInt8) (b1 : Bool), i ≤ n ∧ vv = .pointer (some ⟨vb, 0, none⟩) ∧ iv = .int .u64 (i : Int) ∧ RAt wr rb t1 b1 ∧ Gr rb W wr ∧ MapE wr vb m ∧ MapE wr bb bs ∧ HistAt wr hb pre i ∧ Hid (pre.length = i + 1) ∧ t1.length ≤ 9223372036854775806 ∧ Hid (Cv nl t bad bs u pre (n - i) m t1 b1)) (fun _ iv _ => n - (intOf iv).toNat)
  case atStart => exact ⟨0, vb, v, [v], t5, b5, by omega, rfl, rfl, hR6, hG06, hV6, hB6, hH6, rfl, by omega, hCv⟩
  case round =>
    obtain ⟨i, vb, m, pre, t1, b1, hi, rfl, rfl, hR, hG, hV, hBb, hH, hpl, hlt1, hC⟩ := hrel
    clear hR6 hG06 hV6 hB6 hH6 hCv hsum
    by_cases hlt : i < n
    · have hlt' : (i : Int) < (n : Int) := by omega
      have hCs : Hid (Cv nl t bad bs u pre (n - (i + 1) + 1) m t1 b1) := by rw [show n - (i + 1) + 1 = n - i by omega]; exact hC
      have hrw := hR.rw
      have hk := rdiff_any rb vb m wr hlt1 hR hV
      clear hC
      go_wp2_with (go_at_call 75; fail)
      refine hk.mono ?_
      rintro e w7 ⟨m2, v7, t7, b7, rfl, ⟨vb2, rfl, hV7⟩, hR7, hG7, hX7⟩
      have hl7 := hX7.short (sh_D _) hR7
      have hB7 := mapE_rw hBb hrw hG7
      have hH7 := hist_rw hH hrw hG7
      have hG07 := hG.trans hG7
      have hC7 := Cv.step hCs.out hX7
      have hp := push_some hb vb2 pre i (by omega) m2 (by have := hV7.len; omega) w7 hH7 hV7
      obtain ⟨a0, n0, cap0, q0, hHB⟩ := hH7.hbOf
      rw [List.take_of_length_le (by have := hpl.out; omega)] at hp
      clear hk hV hBb hH hR hG hCs hX7
      go_wp2_with (go_at_call 38; fail)
      refine hp.mono ?_
      rintro e w8 ⟨rfl, hH8, hg8⟩
      have hR8 := hR7.far hrb hg8
      have hG8 := gr_hist hG07 hWl hg8
      have hV8 := hV7.kept hHB hg8
      have hB8 := hB7.kept hHB hg8
      have hC8 : Hid (Cv nl t bad bs u (pre ++ [m2]) (n - (i + 1)) m2 t7 b7) := hC7
      have hpl8 : Hid ((pre ++ [m2]).length = i + 1 + 1) := by
        show (pre ++ [m2]).length = i + 1 + 1
        rw [List.length_append, hpl.out]; rfl
      clear hp hR7 hG7 hV7 hB7 hH7 hC7 hHB hg8 hpl
      go_wp2
      go_roundw
      case rel => exact ⟨i + 1, vb2, m2, pre ++ [m2], t7, b7, by omega, rfl, by go_num, hR8, hG8, hV8, hB8, hH8, hpl8, by omega, hC8⟩
      case measure => simp [intOf]; omega
    · have hlt' : ¬ (i : Int) < (n : Int) := by omega
      obtain rfl : i = n := by omega
      have hX : Hid (Xq (rBr nl t) bad b1 t1 ⟨nl, bs, pre ++ [], u⟩) := hC.out _ _ _ (by rw [Nat.sub_self]; exact Xq.pure)
      clear hC hV hpl
      generalize wr = W0 at *
      have hR0 := hR
      have hG0 := hG
      have hB0 := hBb
      have hH0 := hH
      clear hR hG hBb hH
      go_wp2
      go_loopw [35] (fun iv wr => ∃ i : Nat, i ≤ r ∧ iv = .int .u64 (i : Int) ∧ RAt wr rb t1 b1 ∧ Gr rb W wr ∧ MapE wr bb bs ∧ HistAt wr hb pre (u + (r - i))) (fun iv _ => r - (intOf iv).toNat)
      case atStart => exact ⟨0, by omega, rfl, hR0, hG0, hB0, by rw [Nat.sub_zero, hHn.out]; exact hH0⟩
      case round =>
        obtain ⟨i, hi, rfl, hR, hG, hBb, hH⟩ := hrel
        clear hR0 hG0 hB0 hH0
        by_cases hlt : i < r
        · have hlt' : (i : Int) < (r : Int) := by omega
          have hp := undo_some hb pre (u + (r - (i + 1))) wr (by rw [show u + (r - (i + 1)) + 1 = u + (r - i) by omega]; exact hH)
          obtain ⟨a0, n0, cap0, q0, hHB⟩ := hH.hbOf
          clear hH
          go_wp2_with (go_at_call 58; fail)
          refine hp.mono ?_
          rintro e w8 ⟨mu, rfl, -, -, hH8, hg8⟩
          have hR8 := hR.far hrb hg8
          have hG8 := gr_hist hG hWl hg8
          have hB8 := hBb.kept hHB hg8
          clear hp hR hG hBb hHB hg8
          go_wp2
          go_roundw
          case rel => exact ⟨i + 1, by omega, by go_num, hR8, hG8, hB8, hH8⟩
          case measure => simp [intOf]; omega
        · have hlt' : ¬ (i : Int) < (r : Int) := by omega
          have hHu : HistAt wr hb pre u := by
            have := hH
            rw [show u + (r - i) = u by omega] at this
            exact this
          have hb9 : Below wr.heap.size wr (wr.alloc (.cells #[.pointer (some ⟨hb, 0, none⟩), .pointer (some ⟨bb, 0, none⟩)] 75)) := (Below.refl _ _).alloc (Nat.le_refl _) _
          have hfin : Xc (rBr nl) (VX nm nl) rb t bad W (.returned (.pointer (some ⟨wr.heap.size, 0, none⟩))) (wr.alloc (.cells #[.pointer (some ⟨hb, 0, none⟩), .pointer (some ⟨bb, 0, none⟩)] 75)) := ⟨_, _, t1, b1, rfl, ⟨rfl, wr.heap.size, hb, rfl, ⟨⟨bb, heap_alloc_last wr _, hBb.later hb9⟩, by rw [List.append_nil]; exact hHu.later hb9, hnm⟩, hWl⟩, hR.later hb9, hG.trans (Gr.of_below hb9), hX.out⟩
          clear hH hHu hR hG hBb hX hb9
          go_wp2
          exact bodyPost_ret (v := .pointer (some ⟨wr.heap.size, 0, none⟩)) (by simp [results, Tryz.results53, go_sem]) rfl hfin

end Go.Proofs.YtblfdjdhikfjhaaGreat.BZ


namespace Go.Proofs.YtblfdjdhikfjhaaGreat.BZ
open Go.RowKit

def toB (b : Br) : Bc := ⟨b.nm.data.toList, b.bs, b.Ls, b.p⟩
theorem Xq.good {β : Type} {M : Rd β} {t2 : List UInt8} {x : β} (h : Xq M false false t2 x) : M = some (x, t2) := by
  obtain ⟨h1, h2⟩ := h.2 rfl
  cases hM : M with
  | none => have := h2 hM; cases this
  | some p =>
    obtain ⟨y, t⟩ := p
    obtain ⟨rfl, rfl, -⟩ := h1 _ _ hM
    rfl
theorem Xq.was {β : Type} {M : Rd β} {b : Bool} {t2 : List UInt8} {x : β} (h : Xq M b false t2 x) : b = false := by
  cases b with
  | false => rfl
  | true => have := h.1 rfl; cases this
theorem Xq.any {β γ : Type} {M : Rd β} {M' : Rd γ} {b2 : Bool} {t2 : List UInt8} {x : β} {y : γ} (h : Xq M true b2 t2 x) : Xq M' true b2 t2 y := ⟨h.1, fun e => by cases e⟩

/-- The book under way: its map, its branches. -/
structure LM (lo rb bb mb i : Nat) (Bs : List Br) (D : DataW Nat) (X : World) : Prop where
  r : rb < lo
  b : lo ≤ bb
  m : lo ≤ mb
  bk : X.heap[bb]? = some (.cells #[.map (some mb), .string ⟨#[]⟩] 71 (0, 0))
  mp : X.ownsMap Tryz.prog 9 bR mb i D
  br : ∀ x ∈ Bs, BrAt X x
  hbs : ∀ x ∈ Bs, lo ≤ x.hb
  len : Bs.length = i
theorem LM.cell {lo rb bb mb i : Nat} {Bs : List Br} {D : DataW Nat} {X : World} (h : LM lo rb bb mb i Bs D X) : X.cell? ⟨bb, 0, none⟩ = some (.map (some mb)) := cell_of_row _ _ 0 _ _ _ h.bk
theorem LM.ne {lo rb bb mb i : Nat} {Bs : List Br} {D : DataW Nat} {X : World} (h : LM lo rb bb mb i Bs D X) : mb ≠ bb := map_ne_cells h.mp h.cell
theorem LM.moved {lo rb bb mb i r : Nat} {Bs : List Br} {D : DataW Nat} {X Y : World} (h : LM lo rb bb mb i Bs D X) (hw : Rw X r) (h1 : r ≠ bb) (h2 : r ≠ mb) (hg : X.grownBy Y (some r)) : LM lo rb bb mb i Bs D Y :=
  ⟨h.r, h.b, h.m, (hg.block bb (Array.getElem?_eq_some_iff.1 h.bk).1 (fun e => h1 (Option.some.inj e).symm)).trans h.bk, h.mp.kept hg (fun e => h2 (Option.some.inj e).symm), fun x hx => br_rw (h.br x hx) hw hg, h.hbs, h.len⟩
theorem LM.gr {lo rb bb mb i : Nat} {Bs : List Br} {D : DataW Nat} {X Y : World} (h : LM lo rb bb mb i Bs D X) (hw : Rw X rb) (hg : Gr rb X Y) : LM lo rb bb mb i Bs D Y :=
  h.moved hw (by have := h.r; have := h.b; omega) (by have := h.r; have := h.m; omega) hg
theorem LM.later {lo rb bb mb i : Nat} {Bs : List Br} {D : DataW Nat} {X Y : World} (h : LM lo rb bb mb i Bs D X) (hb : Below X.heap.size X Y) : LM lo rb bb mb i Bs D Y :=
  ⟨h.r, h.b, h.m, (hb.block bb (Array.getElem?_eq_some_iff.1 h.bk).1).trans h.bk, ownsMap_later h.mp hb, fun x hx => (h.br x hx).later hb, h.hbs, h.len⟩
theorem LM.put {lo rb bb mb i : Nat} {Bs : List Br} {D : DataW Nat} {X Y : World} {l : Lit} (h : LM lo rb bb mb i Bs D X) {nb : Br} (hB : BrAt X nb) (hh : lo ≤ nb.hb) (hg : X.grownBy Y (some mb)) (ho : Y.ownsMap Tryz.prog 9 bR mb (i + 1) (D.put l (.held nb.xb))) : LM lo rb bb mb (i + 1) (nb :: Bs) (D.put l (.held nb.xb)) Y := by
  have hw := rw_map h.mp
  refine ⟨h.r, h.b, h.m, (hg.block bb (Array.getElem?_eq_some_iff.1 h.bk).1 (fun e => h.ne (Option.some.inj e).symm)).trans h.bk, ho, fun x hx => ?_, fun x hx => ?_, by rw [List.length_cons, h.len]⟩
  · rcases List.mem_cons.1 hx with rfl | hx
    · exact br_rw hB hw hg
    · exact br_rw (h.br x hx) hw hg
  · rcases List.mem_cons.1 hx with rfl | hx
    · exact hh
    · exact h.hbs x hx

/-- The names read so far. -/
def NmR (lo : Nat) (X : World) (v : Value) (l : List (List UInt8)) : Prop := X.ownsRow lo 9 1 v l.length (l.map encStr) ∧ (l = [] → v.ownBlock = none)
theorem NmR.sl {lo : Nat} {X : World} {v : Value} {l : List (List UInt8)} (h : NmR lo X v l) : ∃ p cap, v = .slice p l.length cap := by
  obtain ⟨⟨_, ⟨e, h0⟩ | ⟨g, cap, cur, e, _⟩⟩, -⟩ := h
  · exact ⟨none, 0, by rw [e, h0]⟩
  · exact ⟨_, cap, e⟩
theorem NmR.rw {lo : Nat} {X : World} {v : Value} {l : List (List UInt8)} (h : NmR lo X v l) : ∀ r, v.ownBlock = some r → Rw X r ∧ lo ≤ r ∧ ∃ cs, X.heap[r]? = some (.cells cs 9 (0, 0)) := fun r hr => by
  obtain ⟨h1, h2⟩ := h
  have hlo := (h1.lt r hr).1
  have hl : l ≠ [] := fun e => by rw [h2 e] at hr; cases hr
  obtain ⟨_, ⟨e, h0⟩ | ⟨g, cap, cur, e, h3, h4, h5, h6, h7, h8⟩⟩ := id h1
  · rw [e] at hr; cases hr
  · rw [e] at hr
    obtain rfl : g = r := Option.some.inj hr
    have hc0 : ∃ a, X.cell? ⟨g, 0, none⟩ = some (.string a) := by
      rw [e] at h1
      have hp := List.length_pos_iff.2 hl
      refine ⟨⟨l[0].toArray⟩, (h1.cellAt 0 (by omega)).trans ?_⟩
      rw [List.getElem?_map, List.getElem?_eq_getElem hp]
      rfl
    obtain ⟨a, hc0⟩ := hc0
    refine ⟨⟨fun u e2 => ?_, fun u e2 => ?_, fun cs m e2 => ?_⟩, hlo, cur, h4⟩
    · rw [hc0] at e2; cases e2
    · rw [hc0] at e2; cases e2
    · rw [h4] at e2
      injection e2 with e2
      injection e2 with _ e2
      revert e2
      decide
theorem NmR.moved {lo r : Nat} {X Y : World} {v : Value} {l : List (List UInt8)} (h : NmR lo X v l) (hne : v.ownBlock ≠ some r) (hg : X.grownBy Y (some r)) : NmR lo Y v l := ⟨h.1.kept hg (.inr hne), h.2⟩
theorem NmR.gr {lo rb : Nat} {X Y : World} {v : Value} {l : List (List UInt8)} (h : NmR lo X v l) (hr : rb < lo) (hg : Gr rb X Y) : NmR lo Y v l := h.moved (fun e => by have := (h.1.lt rb e).1; omega) hg
theorem NmR.later {lo : Nat} {X Y : World} {v : Value} {l : List (List UInt8)} (h : NmR lo X v l) (hb : Below X.heap.size X Y) : NmR lo Y v l := ⟨own_laterB h.1 hb, h.2⟩
theorem NmR.ah {lo rb : Nat} {X : World} {v : Value} {l : List (List UInt8)} (h : NmR lo X v l) (hr : rb < lo) (h6 : l.length ≤ 1000) : AhAt X rb v l := by
  obtain ⟨h1, h2⟩ := h
  cases hl : l with
  | nil =>
    obtain ⟨p, cap, e⟩ := NmR.sl ⟨h1, h2⟩
    rw [hl] at e
    exact .inl ⟨rfl, p, cap, e⟩
  | cons a r =>
    rw [← hl]
    have hne : l ≠ [] := by rw [hl]; exact List.cons_ne_nil _ _
    obtain ⟨_, ⟨e, h0⟩ | ⟨g, cap, cur, e, h3, h4, -⟩⟩ := id h1
    · exact absurd (List.length_eq_zero_iff.1 h0) hne
    · have hp := List.length_pos_iff.2 hne
      refine .inr ⟨g, 0, cap, l[l.length - 1]'(by omega), h6, ?_, e, by omega, (Array.getElem?_eq_some_iff.1 h4).1, ?_⟩
      · rw [List.getLast?_eq_getElem?, List.getElem?_eq_getElem]
      · rw [e] at h1
        rw [Nat.zero_add, h1.cellAt _ (by omega), List.getElem?_map, List.getElem?_eq_getElem (by omega)]
        rfl
theorem grown_up {X Y : World} (h : X.grownBy Y none) : X.grownBy Y (some X.heap.size) := ⟨h.os, h.tape, h.output, h.size, fun k hk _ => h.block k hk (by simp)⟩
theorem rw_new (X : World) : Rw X X.heap.size := by
  have e : X.heap[X.heap.size]? = none := Array.getElem?_eq_none (Nat.le_refl _)
  exact ⟨fun u h => by simp [World.cell?] at h, fun u h => by simp [World.cell?] at h, fun cs m h => by rw [e] at h; cases h⟩
theorem row_ne_map {X : World} {lo mb n : Nat} {v : Value} {l : List (List UInt8)} {D : DataW Nat} (h : NmR lo X v l) (hm : X.ownsMap Tryz.prog 9 bR mb n D) : v.ownBlock ≠ some mb := fun e => by
  obtain ⟨-, -, cs, h3⟩ := h.rw mb e
  obtain ⟨es, clock, hb, -⟩ := hm
  rw [h3] at hb
  cases hb
theorem NmR.grown {lo : Nat} {X Y : World} {v : Value} {l : List (List UInt8)} (h : NmR lo X v l) (hlo : lo ≤ X.heap.size) (hg : X.grownBy Y v.ownBlock) {bb mb n : Nat} {cs : Array Value} {D : DataW Nat} (hB : X.heap[bb]? = some (.cells cs 71 (0, 0))) (hm : X.ownsMap Tryz.prog 9 bR mb n D) : ∃ r, lo ≤ r ∧ Rw X r ∧ X.grownBy Y (some r) ∧ r ≠ bb ∧ r ≠ mb := by
  cases ho : v.ownBlock with
  | none =>
    rw [ho] at hg
    exact ⟨_, hlo, rw_new X, grown_up hg, by have := (Array.getElem?_eq_some_iff.1 hB).1; omega, by have := hm.lt; omega⟩
  | some r =>
    have hne := row_ne_map h hm
    rw [ho] at hg hne
    obtain ⟨h1, h2, cs2, h3⟩ := h.rw r ho
    refine ⟨r, h2, h1, hg, ?_, fun e => hne (by rw [e])⟩
    rintro rfl
    rw [h3] at hB
    injection hB with hB
    injection hB with _ hB
    revert hB
    decide
/-- The book, when all is read. -/
theorem LM.book {lo rb bb mb i : Nat} {Bs : List Br} {D : DataW Nat} {X : World} (h : LM lo rb bb mb i Bs D X) (hT : Ties D Bs) (h6 : i ≤ 6) {cur : ByteArray} (hc : ∃ b ∈ Bs, b.nm = cur) : BookAt (X.setCell ⟨bb, 1, none⟩ (.string cur)) lo bb Bs cur := by
  have hg := grown_set X bb 1 (.string cur)
  have hrow := heap_setCell_same X bb 1 _ _ (.string cur) h.bk
  have c0 := h.cell
  have hw : Rw X bb := by
    refine ⟨fun u e => ?_, fun u e => ?_, fun cs m e => ?_⟩
    · rw [c0] at e; cases e
    · rw [c0] at e; cases e
    · rw [h.bk] at e
      injection e with e
      injection e with _ e
      revert e
      decide
  exact ⟨h.b, h.hbs, mb, D, h.m, hrow, by rw [h.len]; exact h.mp.kept hg (fun e => h.ne (Option.some.inj e)), hT, fun x hx => br_rw (h.br x hx) hw hg, hc, by rw [h.len]; exact h6⟩

/-- A book's bytes behind the lead. -/
def jBook (n : Nat) (xs : List Bc) (l : List UInt8) : Rd (List Bc × Nat) := bd (rB 0 (n - 1) l) fun c t => if nMain ∈ xs.map (·.nm) then some ((xs, c), t) else none
def kBook (l : List UInt8) : Rd (List Bc × Nat) := bd (rB 1 6 l) fun n t => bd (rBs n [] t) (jBook n)
def Ck (t : List UInt8) (bad : Bool) (t2 : List UInt8) (b2 : Bool) : Prop := ∀ b3 t3 y, Xq (kBook t2) b2 b3 t3 y → Xq (rBook t) bad b3 t3 y
def Cb (t : List UInt8) (bad : Bool) (n k : Nat) (acc : List Bc) (t1 : List UInt8) (b1 : Bool) : Prop := ∀ b2 t2 y, Xq (bd (rBs k acc t1) (jBook n)) b1 b2 t2 y → Xq (rBook t) bad b2 t2 y
theorem bd_assoc {α β γ : Type} {m : Rd α} {f : α → List UInt8 → Rd β} {g : β → List UInt8 → Rd γ} : bd (bd m f) g = bd m (fun x t => bd (f x t) g) := by
  cases m <;> rfl
theorem Cb.step {t : List UInt8} {bad : Bool} {n k : Nat} {acc : List Bc} {t1 t2 t3 : List UInt8} {b1 b2 b3 : Bool} {s : List UInt8} {x : Bc} (h : Cb t bad n (k + 1) acc t1 b1) (h1 : Xq (rNm (acc.map (·.nm)) t1) b1 b2 t2 s) (h2 : Xq (rBr s t2) b2 b3 t3 x) : Cb t bad n k (acc ++ [x]) t3 b3 := fun b4 t4 y hq => by
  refine h b4 t4 y ?_
  show Xq (bd (bd (rNm (acc.map (·.nm)) t1) fun s t => bd (rBr s t) fun x t => rBs k (acc ++ [x]) t) (jBook n)) b1 b4 t4 y
  rw [bd_assoc]
  refine h1.bd ?_
  rw [bd_assoc]
  exact h2.bd hq
/-- What is known where no fault was met. -/
def Gk (b1 : Bool) (acc : List Bc) (Bs : List Br) (D : DataW Nat) : Prop := (Bs.map toB).reverse = acc ∧ (b1 = false → Ties D Bs ∧ (acc.map (·.nm)).Pairwise (· < ·))
theorem rB_ge {lo hi n : Nat} {t t2 : List UInt8} (h : rB lo hi t = some (n, t2)) : lo ≤ n ∧ n ≤ hi := by
  unfold rB at h
  obtain ⟨m, t', h1, h2⟩ := bd_some h
  split at h2
  · cases h2
  · cases h2; omega
theorem rNm_ok {ahead : List (List UInt8)} {t t2 s : List UInt8} (h : rNm ahead t = some (s, t2)) : isNm s = true ∧ ∀ x, ahead.getLast? = some x → x < s := by
  unfold rNm at h
  obtain ⟨m, t', h1, h2⟩ := bd_some h
  obtain ⟨m', t'', h3, h4⟩ := bd_some h2
  split at h4
  · next hc => cases h4; exact hc
  · cases h4
theorem last_lt {l : List (List UInt8)} {s : List UInt8} (hp : l.Pairwise (· < ·)) (hs : ∀ x, l.getLast? = some x → x < s) : ∀ x ∈ l, x < s := by
  intro x hx
  have hne : l ≠ [] := fun e => by rw [e] at hx; cases hx
  have hl := hs _ (List.getLast?_eq_some_getLast hne)
  obtain ⟨i, hi, rfl⟩ := List.mem_iff_getElem.1 hx
  by_cases e : i = l.length - 1
  · subst e
    rw [List.getLast_eq_getElem] at hl
    exact hl
  · refine List.lt_trans ?_ hl
    rw [List.getLast_eq_getElem]
    exact List.pairwise_iff_getElem.1 hp i (l.length - 1) hi (by omega) (by omega)
theorem Gk.step {b1 b2 b3 : Bool} {acc : List Bc} {Bs : List Br} {D : DataW Nat} {t1 t2 t3 s : List UInt8} {x : Bc} {xb hb : Nat} (h : Gk b1 acc Bs D) (h1 : Xq (rNm (acc.map (·.nm)) t1) b1 b2 t2 s) (h2 : Xq (rBr s t2) b2 b3 t3 x) (hx : x.nm = s) (hs : s.length ≤ 9223372036854775806) (hh : ∀ b ∈ Bs, b.hb ≠ hb) :
    Gk b3 (acc ++ [x]) (⟨⟨s.toArray⟩, xb, hb, x.Ls, x.p, x.bs⟩ :: Bs) (D.put (kl ⟨s.toArray⟩) (.held xb)) := by
  obtain ⟨he, hg⟩ := h
  have hB : toB ⟨⟨s.toArray⟩, xb, hb, x.Ls, x.p, x.bs⟩ = x := by
    unfold toB
    cases x
    simp at hx ⊢
    exact hx.symm
  refine ⟨by rw [List.map_cons, List.reverse_cons, he, hB], fun e => ?_⟩
  subst e
  obtain rfl := h2.was
  obtain rfl := h1.was
  obtain ⟨hT, hp⟩ := hg rfl
  obtain ⟨-, hlast⟩ := rNm_ok h1.good
  have hlt := last_lt hp hlast
  have hnm : ∀ b ∈ Bs, b.nm ≠ ⟨s.toArray⟩ := fun b hb e => by
    have hm : toB b ∈ acc := by rw [← he]; exact List.mem_reverse.2 (List.mem_map.2 ⟨b, hb, rfl⟩)
    have := hlt _ (List.mem_map.2 ⟨_, hm, rfl⟩)
    have e2 : (toB b).nm = s := by unfold toB; rw [e]
    rw [e2] at this
    exact List.lt_irrefl _ this
  refine ⟨hT.put (nb := ⟨⟨s.toArray⟩, xb, hb, x.Ls, x.p, x.bs⟩) (by show s.toArray.size ≤ maxLen; simp; unfold maxLen; omega) hnm hh, ?_⟩
  rw [List.map_append, List.map_singleton, List.pairwise_append]
  refine ⟨hp, List.pairwise_singleton _ _, fun a ha b hb => ?_⟩
  rw [List.mem_singleton.1 hb, hx]
  exact hlt a ha

end Go.Proofs.YtblfdjdhikfjhaaGreat.BZ

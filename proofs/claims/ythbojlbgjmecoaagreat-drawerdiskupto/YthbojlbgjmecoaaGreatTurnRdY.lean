import Derived.Test.YthbojlbgjmecoaaGreatJoin46
/- made: a pair of disks over like files. -/
namespace Go.Proofs.YthbojlbgjmecoaaGreat.DJ
open Go.RowKit
set_option linter.constructorNameAsVariable false

def prRow (d m : Option Addr) : Obj := .cells #[.pointer d, .pointer none, .pointer m, .pointer none] 32 (0, 0)
/-- The two disks of a pair, with nothing in common. -/
structure Two (W : World) (lo db rb : Nat) (d : Dk) (S T : Nat → Prop) (l2 : Nat) : Prop where
  p : DiskAt W l2 S db d
  r : RdAt W T rb d
  ap : ∀ k, S k → ¬ T k
  sl : ∀ k, S k → lo ≤ k
  tl : ∀ k, T k → lo ≤ k
  l : lo ≤ l2
theorem Two.grS {U S T : Nat → Prop} {W W' : World} {lo db rb l2 : Nat} {d : Dk} (h : Two W lo db rb d S T l2) (hg : GrS U W W') (h1 : ∀ k, S k → ¬ U k) (h2 : ∀ k, T k → ¬ U k) : Two W' lo db rb d S T l2 := ⟨h.p.grS hg h1, h.r.grS hg h2, h.ap, h.sl, h.tl, h.l⟩
theorem Two.later {S T : Nat → Prop} {W W' : World} {lo db rb l2 : Nat} {d : Dk} (h : Two W lo db rb d S T l2) (hb : Below W.heap.size W W') : Two W' lo db rb d S T l2 := h.grS (U := fun _ => False) (.of_below hb) (fun _ _ h => h) (fun _ _ h => h)
/-- What made answers. -/
def MadeP (r : Option (List Fl)) (w : World) (e : Ending) (w' : World) : Prop := Below w.heap.size w w' ∧ ∃ pb, e = .returned (.tuple #[.pointer (some ⟨pb, 0, none⟩), .bool true]) ∧ w.heap.size ≤ pb ∧ match r with
  | none => w'.heap[pb]? = some (prRow none none)
  | some fs => ∃ db rb S T l2, w'.heap[pb]? = some (prRow (some ⟨db, 0, none⟩) (some ⟨rb, 0, none⟩)) ∧ Two w' w.heap.size db rb ⟨fs, false, none, 0, 0⟩ S T l2 ∧ ¬ S pb ∧ ¬ T pb
theorem incF_fib {B : Nat} {f : Fi} (h : FiB B f) : FiB B (incF f) := ⟨h.nl, h.nb, by show (f.dat.map _).length ≤ B; rw [List.length_map]; exact h.dl, h.lo, h.hi⟩
theorem FiB.wide {B B' : Nat} {f : Fi} (h : FiB B f) (hb : B ≤ B') : FiB B' f := ⟨Nat.le_trans h.nl hb, h.nb, Nat.le_trans h.dl hb, h.lo, h.hi⟩
set_option maxRecDepth 100000 in
set_option maxHeartbeats 16000000 in
theorem made_any (L : List Fi) (hf : ∀ f ∈ L, FiB 1048576 f) (hfb : ∀ f ∈ L, ∀ x ∈ f.dat, x < 256) (a : Option Addr) (cap : Nat) (w : World) (hA : FiAt w a L) (haw : L = [] ∨ ∀ q, a = some q → q.block < w.heap.size) (h100 : L.length ≤ 1048576) : Calls Tryz.prog 4 #[.slice a L.length cap] w (MadeP (newD L) w) := by
  obtain ⟨W1, hW1⟩ : ∃ W1, w.alloc (rmRow (.slice none 0 0) (.slice none 0 0)) = W1 := ⟨_, rfl⟩
  have hB1 : Below w.heap.size w W1 := by rw [← hW1]; exact (Below.refl _ _).alloc (Nat.le_refl _) _
  have hs1 : W1.heap.size = w.heap.size + 1 := by rw [← hW1]; simp
  have hR1 : RmB W1 W1.heap.size w.heap.size [] (.slice none 0 0) (.slice none 0 0) := by rw [← hW1]; exact RmB.new w _
  have hAY : ∀ Y, GrS (fun z => z = w.heap.size) W1 Y → FiAt Y a L := fun Y hY => hA.grS ((GrS.of_below hB1).trans hY) (fun k hk e => by omega)
  have hfl := rfl_any L hf h100 w.heap.size a cap W1 hAY (haw.imp id (fun haw q hq => ⟨fun e => by have := haw q hq; omega, by have := haw q hq; omega⟩)) hR1
  have hWw : W1 = w.alloc (.cells #[.slice none 0 0, .slice none 0 0, .slice none 0 0, .slice none 0 0, .slice none 0 0, .slice none 0 0, .slice none 0 0, .slice none 0 0, .slice none 0 0, .slice none 0 0, .slice none 0 0, .slice none 0 0, .slice none 0 0, .slice none 0 0, .slice none 0 0, .slice none 0 0, .slice none 0 0, .slice none 0 0, .slice none 0 0, .slice none 0 0, .slice none 0 0] 65) := hW1.symm
  have hnA : Hid (∀ Y, GrS (fun z => z = w.heap.size) W1 Y → Calls Tryz.prog 10 #[.slice a L.length cap] Y (RnP (newD L) Y)) := ⟨fun Y hY => rnewDisk_any L (fun f h => (hf f h).wide (by decide)) (by omega) a cap Y (hAY Y hY)⟩
  obtain ⟨R, hRe⟩ : ∃ R, newD L = R := ⟨_, rfl⟩
  rw [hRe] at hnA ⊢
  replace hfl := Hid.mk hfl
  replace hRe := Hid.mk hRe
  go_enter Tryz.func4, Tryz.ntmps4
  go_wp2_with fail
  rw [← hWw]
  clear hWw
  go_wp2_with (go_at_call 9; fail)
  refine hfl.out.mono ?_
  rintro e W2 ⟨g, cF, E, vb, vf, rfl, hE, hR2, hof, hov, hG2⟩
  have hB2 : Below w.heap.size w W2 := hB1.trans (hG2.below (by omega) (fun k e => by omega))
  have hEl : E.length = L.length := by rw [← hE, List.length_map]
  have hTu : TuW W2 g E (nowC L 0 0) := by
    have h := hR2.tu hEl hof
    rw [nowC_zero, ← hE]
    refine h.re (fun j hj t ht => ?_)
    simp only [List.getElem?_map, Option.map_map]
    rfl
  have hdif := hR2.dif
  have hg1 : W1.heap.size ≤ g := (own_rowT hof rfl).1
  have hEg : ∀ x ∈ E, x.2.1 ≠ g ∧ W1.heap.size ≤ x.2.1 ∧ x.2.1 < W2.heap.size := fun x hx => by
    have hd := hR2.dat x hx
    refine ⟨fun e => ?_, (own_rowT hd rfl).1, (hd.lt _ rfl).2⟩
    obtain ⟨-, cs, r⟩ := own_rowT hof (g := g) rfl
    exact tag_off r hd (by decide) (by rw [← e]; rfl)
  have hsE : ∀ x ∈ E, x.1.dat.length ≤ 1048576 := fun x hx => (hf x.1 (by rw [← hE]; exact List.mem_map.2 ⟨x, hx, rfl⟩)).dl
  have hHold : Hid (∀ Y, Below W2.heap.size W2 Y → Calls Tryz.prog 12 #[.pointer (some ⟨w.heap.size, 0, none⟩)] Y fun e W' => e = .returned (.bool true) ∧ Below Y.heap.size Y W') := ⟨fun Y hY => hold_f hEl hsE h100 Y (hR2.later hY) (own_later hof hY) (own_later hov hY)⟩
  have hRef2 := Hid.mk (hnA.out W2 hG2)
  have hSame : Hid (∀ Y, Below W2.heap.size W2 Y → Calls Tryz.prog 6 #[.slice (some ⟨g, 0, none⟩) L.length (L.length + 40), .slice a L.length cap] Y fun e w' => e = .returned (.bool true) ∧ ∃ m, w' = Y.drewN m) := ⟨fun Y hY => sameFiles_same L (by omega) _ _ _ _ Y ((hTu.later hY).at0 hE hfb) ((hAY W2 hG2).later hY)⟩
  have hPro : Hid (∀ Y, Below W2.heap.size W2 Y → Calls Tryz.prog 11 #[.slice (some ⟨g, 0, none⟩) L.length (L.length + 40)] Y (NdP R Y)) := ⟨fun Y hY => by
    have := newDisk_any L (fun f h => (hf f h).wide (by decide)) (by omega) (some ⟨g, 0, none⟩) (L.length + 40) Y ((hTu.later hY).at0 hE hfb)
    rw [hRe.out] at this
    exact this⟩
  have hfbE : ∀ f ∈ L, ∀ x ∈ f.dat, x < 256 := hfb
  obtain ⟨R2, hRe2⟩ : ∃ R2, newD (L.map incF) = R2 := ⟨_, rfl⟩
  have hL2 : ∀ f ∈ L.map incF, FiB 4294967296 f := fun f h => by
    obtain ⟨x, hx, rfl⟩ := List.mem_map.1 h
    exact (incF_fib (hf x hx)).wide (by decide)
  have hRefD : Hid (∀ Y, FiAt Y (some ⟨g, 0, none⟩) (L.map incF) → Calls Tryz.prog 10 #[.slice (some ⟨g, 0, none⟩) L.length (L.length + 40)] Y (RnP R2 Y)) := ⟨fun Y hY => by
    have := rnewDisk_any (L.map incF) hL2 (by rw [List.length_map]; omega) (some ⟨g, 0, none⟩) (L.length + 40) Y hY
    rw [hRe2, List.length_map] at this
    exact this⟩
  have hProD : Hid (∀ Y, FiAt Y (some ⟨g, 0, none⟩) (L.map incF) → Calls Tryz.prog 11 #[.slice (some ⟨g, 0, none⟩) L.length (L.length + 40)] Y (NdP R2 Y)) := ⟨fun Y hY => by
    have := newDisk_any (L.map incF) hL2 (by rw [List.length_map]; omega) (some ⟨g, 0, none⟩) (L.length + 40) Y hY
    rw [hRe2, List.length_map] at this
    exact this⟩
  have hlE : L.length ≤ 1048576 := h100
  have hlI : (L.length : Int) ≤ 1048576 := by omega
  have hTuH := Hid.mk hTu
  clear hTu hR2 hof hov hG2 hAY hA haw hf hfb hfl hnA hRe hR1 hB1 hRe2 hL2
  go_wp2_with (go_at_call 10; fail)
  refine hRef2.out.mono ?_
  rintro e W3 ⟨hb3, hr3⟩
  have hpro3 := hPro.out W3 hb3
  clear hRef2 hPro
  cases R with
  | none =>
    simp only at hr3
    subst hr3
    go_wp2_with (go_at_call 11; fail)
    refine hpro3.mono ?_
    rintro e W4 ⟨hb4, hr4⟩
    simp only at hr4
    subst hr4
    clear hpro3
    have hb34 := below_step hb3 hb4
    go_wp2_with (first | (go_at_call 6; refine (hSame.out W4 hb34).mono ?_; rintro e W4' ⟨rfl, m4, hm4⟩; have hb45 : Below W4.heap.size W4 W4' := (by rw [hm4]; exact below_drewN (Below.refl _ _) _); clear hm4; have hhold := hHold.out W4' (below_step hb34 hb45)) | (go_at_call 12; refine hhold.mono ?_; rintro e W5 ⟨rfl, hb5⟩))
    have hb25 := below_step (below_step hb34 hb45) hb5
    have hT0 := hTuH.out.later hb25
    have hb4e := Hid.mk (below_step hb45 hb5)
    replace hb3 := Hid.mk hb3
    replace hb4 := Hid.mk hb4
    replace hb34 := Hid.mk hb34
    replace hb25 := Hid.mk hb25
    clear hhold hb45 hb5 hTuH hSame hHold
    have hI0 : Hid (TuW W5 g E (nowC L 0 0)) := ⟨hT0⟩
    clear hT0
    go_loopw [11] (fun v wr => ∃ i : Nat, i ≤ L.length ∧ v = .int .i64 (i : Int) ∧ TuW wr g E (nowC L i 0) ∧ GrS (fun z => ∃ x ∈ E, x.2.1 = z) W5 wr) (fun v _ => L.length - (intOf v).toNat)
    case atStart => exact ⟨0, Nat.zero_le _, rfl, hI0.out, .refl _ _⟩
    case round =>
      clear hI0
      obtain ⟨i, hi, rfl, hT, hGi⟩ := hrel
      by_cases hlt : i < L.length
      · have hiE : i < E.length := by omega
        have hlt' : (i : Int) < (L.length : Int) := by omega
        have hi0 : (0 : Int) ≤ (i : Int) := by omega
        have hEi : E[i].1 = L[i] := by simp only [← hE, List.getElem_map]
        obtain ⟨n, hn⟩ : ∃ n, E[i].1.dat.length = n := ⟨_, rfl⟩
        obtain ⟨b, hbb⟩ : ∃ b, E[i].2.1 = b := ⟨_, rfl⟩
        have hnL : L[i].dat.length = n := by rw [← hEi]; exact hn
        have hn1 : (n : Int) ≤ 1048576 := by have := hsE E[i] (List.getElem_mem hiE); omega
        have hIk : Hid (TuW wr g E (nowC L i 0) ∧ GrS (fun z => ∃ x ∈ E, x.2.1 = z) W5 wr) := ⟨hT, hGi⟩
        have hcl : Hid (∀ Y c, TuW Y g E c → Y.cell? ⟨g, i * 3 + 1, none⟩ = some (.slice (some ⟨b, 0, none⟩) n (n + 600)) ∧ (∀ t, t < n → Y.cell? ⟨b, t, none⟩ = some (.int .u8 (c i t : Int))) ∧ ∀ t, Y.frozen? ⟨b, t, none⟩ = false) := ⟨fun Y c h => by
          obtain ⟨-, q1, -, -, q4, q5⟩ := h.2 i hiE
          rw [hn, hbb] at q1
          simp only [hn, hbb] at q4 q5
          exact ⟨q1, q4, q5⟩⟩
        have hput : Hid (∀ Y k, k < n → TuW Y g E (nowC L i k) → GrS (fun z => ∃ x ∈ E, x.2.1 = z) W5 Y → TuW (Y.setCell ⟨b, k, none⟩ (.int .u8 (nowC L i (k + 1) i k : Int))).drew g E (nowC L i (k + 1)) ∧ GrS (fun z => ∃ x ∈ E, x.2.1 = z) W5 (Y.setCell ⟨b, k, none⟩ (.int .u8 (nowC L i (k + 1) i k : Int))).drew) := ⟨fun Y k hk h hg => by
          have := h.put hdif (fun x hx => (hEg x hx).1) hiE (by rw [hn]; exact hk) (v := nowC L i (k + 1) i k) (c' := nowC L i (k + 1)) rfl (fun j t hjt => by
            unfold nowC
            have e : (j < i ∨ j = i ∧ t < k + 1) = (j < i ∨ j = i ∧ t < k) := by
              apply propext
              omega
            simp only [e])
          rw [hbb] at this
          have hd := (Below.refl (Y.setCell ⟨b, k, none⟩ (.int .u8 (nowC L i (k + 1) i k : Int))).heap.size (Y.setCell ⟨b, k, none⟩ (.int .u8 (nowC L i (k + 1) i k : Int)))).drew
          exact ⟨this.1.later hd, (hg.trans (this.2.mono (fun z _ e => ⟨E[i], List.getElem_mem hiE, by rw [hbb]; exact e.symm⟩))).trans (.of_below hd)⟩⟩
        have hval : Hid (∀ k, k < n → IntKind.u8.wrap ((nowC L i k i k : Nat) + 1 : Int) = ((nowC L i (k + 1) i k : Nat) : Int)) := ⟨fun k hk => by
          unfold nowC
          dsimp only
          rw [if_neg (by omega), if_pos (by omega)]
          generalize ((L[i]?).map fun f => f.dat.getD k 0).getD 0 = x
          rw [IntKind.wrap_u8]
          omega⟩
        have hnx : Hid (∀ Y, TuW Y g E (nowC L i n) → TuW Y g E (nowC L (i + 1) 0)) := ⟨fun Y h => h.re (fun j hj t ht => by
          rw [← hnL]
          refine nowC_next L hlt j t (by omega) ?_
          have : L[j]? = some E[j].1 := by rw [← hE, List.getElem?_map, List.getElem?_eq_getElem hj]; rfl
          rw [this]
          exact ht)⟩
        obtain ⟨c1, -, -⟩ := hcl.out wr _ hT
        clear hT hGi hdif hEg hsE hn hbb hEi hnL
        go_wp2
        clear c1
        go_loopw [12] (fun v wr => ∃ k : Nat, k ≤ n ∧ v = .int .i64 (k : Int) ∧ TuW wr g E (nowC L i k) ∧ GrS (fun z => ∃ x ∈ E, x.2.1 = z) W5 wr) (fun v _ => n - (intOf v).toNat)
        case atStart => exact ⟨0, Nat.zero_le _, rfl, hIk.out⟩
        case round =>
          clear hIk
          obtain ⟨k, hk, rfl, hT, hG⟩ := hrel
          obtain ⟨c1, c2, c3⟩ := hcl.out _ _ hT
          by_cases hkn : k < n
          · have hkn' : (k : Int) < (n : Int) := by omega
            have hk0 : (0 : Int) ≤ (k : Int) := by omega
            have c2k := c2 k hkn
            have c3k := c3 k
            have hv := hval.out k hkn
            have hp := Hid.mk (hput.out _ k hkn hT hG)
            generalize nowC L i (k + 1) i k = y at *
            generalize nowC L i k i k = x at *
            clear c2 c3 hT hG hcl hput hval hnx
            go_wp2
            go_region
            all_goals
              go_wp2
              go_roundw
              case rel => exact ⟨k + 1, by omega, by go_num, hp.out⟩
              case measure => simp [intOf]; omega
          · obtain rfl : k = n := by omega
            have hTn := Hid.mk (hnx.out _ hT)
            replace hG := Hid.mk hG
            clear c2 c3 hT hcl hput hval hnx
            go_wp2
            go_roundw
            case rel => exact ⟨i + 1, by omega, by go_num, hTn.out, hG.out⟩
            case measure => simp [intOf]; omega
      · obtain rfl : i = L.length := by omega
        have hFi : FiAt _ _ _ := hT.done hE hfbE
        have hBr : Hid (Below w.heap.size w wr) := ⟨by
          have h5 := below_step hB2 hb25.out
          exact h5.trans (hGi.below h5.size (fun z ⟨x, hx, e⟩ => by have := (hEg x hx).2.1; omega))⟩
        replace hB2 := Hid.mk hB2
        clear hT hGi hdif hEg hsE
        go_wp2_with (go_at_call 10; fail)
        refine (hRefD.out wr hFi).mono ?_
        rintro e W7 ⟨hb7, hr7⟩
        have hpro7 := hProD.out W7 (hFi.later hb7)
        clear hRefD hProD hFi
        cases R2 with
        | none =>
          simp only at hr7
          subst hr7
          go_wp2_with (go_at_call 11; fail)
          refine hpro7.mono ?_
          rintro e W8 ⟨hb8, hr8⟩
          simp only at hr8
          subst hr8
          clear hpro7
          replace hb7 := Hid.mk hb7
          replace hb8 := Hid.mk hb8
          go_wp2
          go_ret2
          have hBz := below_step (below_step (hBr.out) hb7.out) hb8.out
          have A9 : Below W8.heap.size W8 (W8.alloc (prRow none none)) := (Below.refl _ _).alloc (Nat.le_refl _) _
          exact ⟨below_step hBz A9, _, rfl, hBz.size, heap_alloc_new _ _⟩
        | some fs2 =>
          obtain ⟨T2, rb2, rfl, hRd2, -⟩ := hr7
          go_wp2_with (go_at_call 11; fail)
          refine hpro7.mono ?_
          rintro e W8 ⟨hb8, hr8⟩
          obtain ⟨S2, db2, rfl, hDk2⟩ := hr8
          have hq2 : fs2.length ≤ 9223372036854775807 := by have := hRd2.ok.len; simp only at this; omega
          have hf8 := files_any W8 hDk2
          have hrf := fun Y (hY : Below W8.heap.size W8 Y) => rfiles_any Y ((hRd2.later hb8).later hY)
          simp only at hf8 hrf
          clear hpro7 hRd2 hDk2
          replace hrf := Hid.mk hrf
          replace hb7 := Hid.mk hb7
          replace hb8 := Hid.mk hb8
          go_wp2_with (first | (go_at_call 7; refine hf8.mono ?_; rintro e W9 ⟨a9, c9, rfl, hF9, hb9⟩; have hrf9 := hrf.out W9 hb9; replace hF9 := Hid.mk hF9; replace hb9 := Hid.mk hb9) | (go_at_call 8; refine hrf9.mono ?_; rintro e W10 ⟨a10, c10, rfl, hF10, hb10⟩; have hsm := sameFiles_same (fs2.map Fl.fi) (by rw [List.length_map]; exact hq2) a9 a10 c9 c10 W10 ((hF9.out.later hb10).fi) hF10.fi; rw [List.length_map] at hsm; replace hF10 := Hid.mk hF10; replace hb10 := Hid.mk hb10) | (go_at_call 6; refine hsm.mono ?_; rintro e W11 ⟨rfl, m11, hm11⟩; have hb11 : Hid (Below W10.heap.size W10 W11) := ⟨by rw [hm11]; exact below_drewN (Below.refl _ _) _⟩; clear hm11))
          go_ret2
          have hBz := below_step (below_step (below_step (below_step (below_step (hBr.out) hb7.out) hb8.out) hb9.out) hb10.out) hb11.out
          have A9 : Below W11.heap.size W11 (W11.alloc (prRow none none)) := (Below.refl _ _).alloc (Nat.le_refl _) _
          exact ⟨below_step hBz A9, _, rfl, hBz.size, heap_alloc_new _ _⟩
  | some fs =>
    obtain ⟨T, rb, rfl, hRd, hTl⟩ := hr3
    go_wp2_with (go_at_call 11; fail)
    refine hpro3.mono ?_
    rintro e W4 ⟨hb4, hr4⟩
    obtain ⟨S, db, rfl, hDk⟩ := hr4
    clear hpro3
    have hb34 := below_step hb3 hb4
    have hSl : ∀ k, S k → W3.heap.size ≤ k := fun k hk => (hDk.low k hk).1
    have hTwo : Two W4 w.heap.size db rb ⟨fs, false, none, 0, 0⟩ S T W3.heap.size := ⟨hDk, hRd.later hb4, fun k h1 h2 => by have := hSl k h1; have := hRd.hi k h2; omega, fun k hk => by have := hSl k hk; have := hB2.size; have := hb3.size; omega, fun k hk => by have := hTl k hk; have := hB2.size; omega, by have := hB2.size; have := hb3.size; omega⟩
    clear hDk hRd
    replace hTwo := Hid.mk hTwo
    go_wp2_with (first | (go_at_call 6; refine (hSame.out W4 hb34).mono ?_; rintro e W4' ⟨rfl, m4, hm4⟩; have hb45 : Below W4.heap.size W4 W4' := (by rw [hm4]; exact below_drewN (Below.refl _ _) _); clear hm4; have hhold := hHold.out W4' (below_step hb34 hb45)) | (go_at_call 12; refine hhold.mono ?_; rintro e W5 ⟨rfl, hb5⟩))
    have hb25 := below_step (below_step hb34 hb45) hb5
    have hTwo5 := Hid.mk ((hTwo.out.later hb45).later hb5)
    clear hTwo
    have hT0 := hTuH.out.later hb25
    have hb4e := Hid.mk (below_step hb45 hb5)
    replace hb3 := Hid.mk hb3
    replace hb4 := Hid.mk hb4
    replace hb34 := Hid.mk hb34
    replace hb25 := Hid.mk hb25
    clear hhold hb45 hb5 hTuH hSame hHold
    have hI0 : Hid (TuW W5 g E (nowC L 0 0)) := ⟨hT0⟩
    clear hT0
    go_loopw [11] (fun v wr => ∃ i : Nat, i ≤ L.length ∧ v = .int .i64 (i : Int) ∧ TuW wr g E (nowC L i 0) ∧ GrS (fun z => ∃ x ∈ E, x.2.1 = z) W5 wr) (fun v _ => L.length - (intOf v).toNat)
    case atStart => exact ⟨0, Nat.zero_le _, rfl, hI0.out, .refl _ _⟩
    case round =>
      clear hI0
      obtain ⟨i, hi, rfl, hT, hGi⟩ := hrel
      by_cases hlt : i < L.length
      · have hiE : i < E.length := by omega
        have hlt' : (i : Int) < (L.length : Int) := by omega
        have hi0 : (0 : Int) ≤ (i : Int) := by omega
        have hEi : E[i].1 = L[i] := by simp only [← hE, List.getElem_map]
        obtain ⟨n, hn⟩ : ∃ n, E[i].1.dat.length = n := ⟨_, rfl⟩
        obtain ⟨b, hbb⟩ : ∃ b, E[i].2.1 = b := ⟨_, rfl⟩
        have hnL : L[i].dat.length = n := by rw [← hEi]; exact hn
        have hn1 : (n : Int) ≤ 1048576 := by have := hsE E[i] (List.getElem_mem hiE); omega
        have hIk : Hid (TuW wr g E (nowC L i 0) ∧ GrS (fun z => ∃ x ∈ E, x.2.1 = z) W5 wr) := ⟨hT, hGi⟩
        have hcl : Hid (∀ Y c, TuW Y g E c → Y.cell? ⟨g, i * 3 + 1, none⟩ = some (.slice (some ⟨b, 0, none⟩) n (n + 600)) ∧ (∀ t, t < n → Y.cell? ⟨b, t, none⟩ = some (.int .u8 (c i t : Int))) ∧ ∀ t, Y.frozen? ⟨b, t, none⟩ = false) := ⟨fun Y c h => by
          obtain ⟨-, q1, -, -, q4, q5⟩ := h.2 i hiE
          rw [hn, hbb] at q1
          simp only [hn, hbb] at q4 q5
          exact ⟨q1, q4, q5⟩⟩
        have hput : Hid (∀ Y k, k < n → TuW Y g E (nowC L i k) → GrS (fun z => ∃ x ∈ E, x.2.1 = z) W5 Y → TuW (Y.setCell ⟨b, k, none⟩ (.int .u8 (nowC L i (k + 1) i k : Int))).drew g E (nowC L i (k + 1)) ∧ GrS (fun z => ∃ x ∈ E, x.2.1 = z) W5 (Y.setCell ⟨b, k, none⟩ (.int .u8 (nowC L i (k + 1) i k : Int))).drew) := ⟨fun Y k hk h hg => by
          have := h.put hdif (fun x hx => (hEg x hx).1) hiE (by rw [hn]; exact hk) (v := nowC L i (k + 1) i k) (c' := nowC L i (k + 1)) rfl (fun j t hjt => by
            unfold nowC
            have e : (j < i ∨ j = i ∧ t < k + 1) = (j < i ∨ j = i ∧ t < k) := by
              apply propext
              omega
            simp only [e])
          rw [hbb] at this
          have hd := (Below.refl (Y.setCell ⟨b, k, none⟩ (.int .u8 (nowC L i (k + 1) i k : Int))).heap.size (Y.setCell ⟨b, k, none⟩ (.int .u8 (nowC L i (k + 1) i k : Int)))).drew
          exact ⟨this.1.later hd, (hg.trans (this.2.mono (fun z _ e => ⟨E[i], List.getElem_mem hiE, by rw [hbb]; exact e.symm⟩))).trans (.of_below hd)⟩⟩
        have hval : Hid (∀ k, k < n → IntKind.u8.wrap ((nowC L i k i k : Nat) + 1 : Int) = ((nowC L i (k + 1) i k : Nat) : Int)) := ⟨fun k hk => by
          unfold nowC
          dsimp only
          rw [if_neg (by omega), if_pos (by omega)]
          generalize ((L[i]?).map fun f => f.dat.getD k 0).getD 0 = x
          rw [IntKind.wrap_u8]
          omega⟩
        have hnx : Hid (∀ Y, TuW Y g E (nowC L i n) → TuW Y g E (nowC L (i + 1) 0)) := ⟨fun Y h => h.re (fun j hj t ht => by
          rw [← hnL]
          refine nowC_next L hlt j t (by omega) ?_
          have : L[j]? = some E[j].1 := by rw [← hE, List.getElem?_map, List.getElem?_eq_getElem hj]; rfl
          rw [this]
          exact ht)⟩
        obtain ⟨c1, -, -⟩ := hcl.out wr _ hT
        clear hT hGi hdif hEg hsE hn hbb hEi hnL
        go_wp2
        clear c1
        go_loopw [12] (fun v wr => ∃ k : Nat, k ≤ n ∧ v = .int .i64 (k : Int) ∧ TuW wr g E (nowC L i k) ∧ GrS (fun z => ∃ x ∈ E, x.2.1 = z) W5 wr) (fun v _ => n - (intOf v).toNat)
        case atStart => exact ⟨0, Nat.zero_le _, rfl, hIk.out⟩
        case round =>
          clear hIk
          obtain ⟨k, hk, rfl, hT, hG⟩ := hrel
          obtain ⟨c1, c2, c3⟩ := hcl.out _ _ hT
          by_cases hkn : k < n
          · have hkn' : (k : Int) < (n : Int) := by omega
            have hk0 : (0 : Int) ≤ (k : Int) := by omega
            have c2k := c2 k hkn
            have c3k := c3 k
            have hv := hval.out k hkn
            have hp := Hid.mk (hput.out _ k hkn hT hG)
            generalize nowC L i (k + 1) i k = y at *
            generalize nowC L i k i k = x at *
            clear c2 c3 hT hG hcl hput hval hnx
            go_wp2
            go_region
            all_goals
              go_wp2
              go_roundw
              case rel => exact ⟨k + 1, by omega, by go_num, hp.out⟩
              case measure => simp [intOf]; omega
          · obtain rfl : k = n := by omega
            have hTn := Hid.mk (hnx.out _ hT)
            replace hG := Hid.mk hG
            clear c2 c3 hT hcl hput hval hnx
            go_wp2
            go_roundw
            case rel => exact ⟨i + 1, by omega, by go_num, hTn.out, hG.out⟩
            case measure => simp [intOf]; omega
      · obtain rfl : i = L.length := by omega
        have hFi : FiAt _ _ _ := hT.done hE hfbE
        have hBr : Hid (Below w.heap.size w wr) := ⟨by
          have h5 := below_step hB2 hb25.out
          exact h5.trans (hGi.below h5.size (fun z ⟨x, hx, e⟩ => by have := (hEg x hx).2.1; omega))⟩
        have hTw := hTwo5.out.grS hGi (fun k hk ⟨x, hx, e⟩ => by have := (hEg x hx).2.2; have := hSl k hk; have := hb3.out.size; omega) (fun k hk ⟨x, hx, e⟩ => by have := (hEg x hx).2.2; have := hTl k hk; omega)
        replace hTw := Hid.mk hTw
        replace hB2 := Hid.mk hB2
        clear hT hGi hdif hEg hsE
        go_wp2_with (go_at_call 10; fail)
        refine (hRefD.out wr hFi).mono ?_
        rintro e W7 ⟨hb7, hr7⟩
        have hpro7 := hProD.out W7 (hFi.later hb7)
        clear hRefD hProD hFi
        cases R2 with
        | none =>
          simp only at hr7
          subst hr7
          go_wp2_with (go_at_call 11; fail)
          refine hpro7.mono ?_
          rintro e W8 ⟨hb8, hr8⟩
          simp only at hr8
          subst hr8
          clear hpro7
          replace hb7 := Hid.mk hb7
          replace hb8 := Hid.mk hb8
          go_wp2
          go_ret2
          have hBz := below_step (below_step (hBr.out) hb7.out) hb8.out
          have A9 : Below W8.heap.size W8 (W8.alloc (prRow (some ⟨db, 0, none⟩) (some ⟨rb, 0, none⟩))) := (Below.refl _ _).alloc (Nat.le_refl _) _
          have hT9 := (((hTw.out).later (hb7.out)).later (hb8.out)).later A9
          refine ⟨below_step hBz A9, _, rfl, hBz.size, db, rb, S, T, _, heap_alloc_new _ _, hT9, fun h => ?_, fun h => ?_⟩
          · have := (((hTw.out).later (hb7.out)).later (hb8.out)).p.low _ h
            omega
          · have := (((hTw.out).later (hb7.out)).later (hb8.out)).r.hi _ h
            omega
        | some fs2 =>
          obtain ⟨T2, rb2, rfl, hRd2, -⟩ := hr7
          go_wp2_with (go_at_call 11; fail)
          refine hpro7.mono ?_
          rintro e W8 ⟨hb8, hr8⟩
          obtain ⟨S2, db2, rfl, hDk2⟩ := hr8
          have hq2 : fs2.length ≤ 9223372036854775807 := by have := hRd2.ok.len; simp only at this; omega
          have hf8 := files_any W8 hDk2
          have hrf := fun Y (hY : Below W8.heap.size W8 Y) => rfiles_any Y ((hRd2.later hb8).later hY)
          simp only at hf8 hrf
          clear hpro7 hRd2 hDk2
          replace hrf := Hid.mk hrf
          replace hb7 := Hid.mk hb7
          replace hb8 := Hid.mk hb8
          go_wp2_with (first | (go_at_call 7; refine hf8.mono ?_; rintro e W9 ⟨a9, c9, rfl, hF9, hb9⟩; have hrf9 := hrf.out W9 hb9; replace hF9 := Hid.mk hF9; replace hb9 := Hid.mk hb9) | (go_at_call 8; refine hrf9.mono ?_; rintro e W10 ⟨a10, c10, rfl, hF10, hb10⟩; have hsm := sameFiles_same (fs2.map Fl.fi) (by rw [List.length_map]; exact hq2) a9 a10 c9 c10 W10 ((hF9.out.later hb10).fi) hF10.fi; rw [List.length_map] at hsm; replace hF10 := Hid.mk hF10; replace hb10 := Hid.mk hb10) | (go_at_call 6; refine hsm.mono ?_; rintro e W11 ⟨rfl, m11, hm11⟩; have hb11 : Hid (Below W10.heap.size W10 W11) := ⟨by rw [hm11]; exact below_drewN (Below.refl _ _) _⟩; clear hm11))
          go_ret2
          have hBz := below_step (below_step (below_step (below_step (below_step (hBr.out) hb7.out) hb8.out) hb9.out) hb10.out) hb11.out
          have A9 : Below W11.heap.size W11 (W11.alloc (prRow (some ⟨db, 0, none⟩) (some ⟨rb, 0, none⟩))) := (Below.refl _ _).alloc (Nat.le_refl _) _
          have hT9 := ((((((hTw.out).later (hb7.out)).later (hb8.out)).later (hb9.out)).later (hb10.out)).later (hb11.out)).later A9
          refine ⟨below_step hBz A9, _, rfl, hBz.size, db, rb, S, T, _, heap_alloc_new _ _, hT9, fun h => ?_, fun h => ?_⟩
          · have := ((((((hTw.out).later (hb7.out)).later (hb8.out)).later (hb9.out)).later (hb10.out)).later (hb11.out)).p.low _ h
            omega
          · have := ((((((hTw.out).later (hb7.out)).later (hb8.out)).later (hb9.out)).later (hb10.out)).later (hb11.out)).r.hi _ h
            omega
end Go.Proofs.YthbojlbgjmecoaaGreat.DJ

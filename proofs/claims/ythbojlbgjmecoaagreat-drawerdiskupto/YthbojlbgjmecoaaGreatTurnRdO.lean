import Derived.Test.YthbojlbgjmecoaaGreatJoin41
/- NewDisk of any files. -/
namespace Go.Proofs.YthbojlbgjmecoaaGreat.DJ
open Go.RowKit
set_option linter.constructorNameAsVariable false

/-- Files that may be. -/
structure Fit2 (f : Fl) : Prop where
  nm : named f.nm
  siz : f.dat.length ≤ 2097152
  sur : f.sure ≤ f.dat.length
  byt : ∀ x ∈ f.dat, x < 256
/-- A file with its bytes comes into the disk's map. -/
theorem add_file2 {w X : World} {lo db : Nat} {S : Nat → Prop} {d : Dk} {mb : Nat} {D : DataW Nat} {fb : List Nat → Nat} {vv : List Nat → Value} (h : Lay w lo S db d mb D fb vv) (hlo : lo ≤ w.heap.size) (hB : Below w.heap.size w X) {xb : Nat} (hxb : w.heap.size ≤ xb) {x : Fl} {v : Value} (hF : FileAt X lo xb v x) (hv : ∀ k, v.ownBlock = some k → w.heap.size ≤ k) (hg : get d.fs x.nm = none) (hf : Fit2 x) (hl : d.fs.length < 40) :
    ∃ w9, (Instr.mapUpdate 94 (.map (some mb)) (.string (strB x.nm)) (.pointer (some ⟨xb, 0, none⟩))).run Tryz.prog X = .ok () w9 ∧ (∃ S1, DiskAt w9 lo S1 db { d with fs := ins d.fs x } ∧ Dv S w S1 w9) ∧ GrS (fun k => k = mb) X w9 := by
  have hX := h.grS (T := fun _ => False) (.of_below hB) (fun _ _ h => h)
  obtain ⟨w9, hrun, hown, hturn⟩ := hX.map.store bkey bmapT (Nat.lt_of_lt_of_le hl (by decide)) (bkeyOf (strB_len (Nat.le_trans hf.nm.2.2 (by decide)))) (show bR (.pointer (some ⟨xb, 0, none⟩)) = some (.held xb, []) from rfl)
  have hG9 : GrS (fun k => k = mb) X w9 := .of_grown hturn.grown rfl
  have hG : GrS (fun k => k = mb) w w9 := (GrS.of_below hB).trans hG9
  have hmb := h.hi _ h.Smb
  have hF9 : FileAt w9 lo xb v x := hF.grS hG9 (by omega) (fun g hg' e => by have := hv g hg'; omega)
  obtain ⟨S1, hL, hv1⟩ := h.add (x := x) (d' := { d with fs := ins d.fs x }) hg hf.nm hf.siz hf.sur hf.byt hl hG hxb hv hF9 hlo hown rfl rfl rfl rfl rfl
  exact ⟨w9, hrun, ⟨S1, ⟨_, _, _, _, hL⟩, hv1⟩, hG9⟩

theorem add_clone2 {w w4 w5 : World} {lo db : Nat} {S : Nat → Prop} {d : Dk} {mb : Nat} {D : DataW Nat} {fb : List Nat → Nat} {vv : List Nat → Value} (h : Lay w lo S db d mb D fb vv) (hlo : lo ≤ w.heap.size) (B4 : Below w.heap.size w w4) {x : Fl} {p5 : Option Addr} {n c5 : Nat} (hn : n = x.dat.length) (ho : w5.ownsRow w4.heap.size 5 1 (.slice p5 n c5) n (bysV x.dat)) (hb5 : Below w4.heap.size w4 w5) (hg : get d.fs x.nm = none) (hf : Fit2 x) (hl : d.fs.length < 40) :
    ∃ w9, (Instr.mapUpdate 94 (.map (some mb)) (.string (strB x.nm)) (.pointer (some ⟨w5.heap.size, 0, none⟩))).run Tryz.prog (w5.alloc (.cells #[.slice p5 n c5, .int .i64 (x.sure : Int)] 100)) = .ok () w9 ∧ (∃ S1, DiskAt w9 lo S1 db { d with fs := ins d.fs x }) ∧ Below lo w w9 ∧ ∀ b o v, (w5.alloc (.cells #[.slice p5 n c5, .int .i64 (x.sure : Int)] 100)).cell? ⟨b, o, none⟩ = some v → b ≠ mb → w9.cell? ⟨b, o, none⟩ = some v := by
  subst hn
  have B5 := B4.trans (hb5.mono B4.size)
  have BA := (Below.refl w5.heap.size w5).alloc (Nat.le_refl _) (.cells #[.slice p5 x.dat.length c5, .int .i64 (x.sure : Int)] 100)
  have hF : FileAt (w5.alloc (.cells #[.slice p5 x.dat.length c5, .int .i64 (x.sure : Int)] 100)) lo w5.heap.size (.slice p5 x.dat.length c5) x := ⟨heap_new w5 _, (own_later ho BA).mono (Nat.le_trans hlo B4.size)⟩
  obtain ⟨w9, q1, ⟨S1, q2, q3⟩, q4⟩ := add_file2 h hlo (below_step B5 BA) B5.size hF (fun k hk => Nat.le_trans B4.size (own_rowT ho hk).1) hg hf hl
  exact ⟨w9, q1, ⟨S1, q2⟩, q3.gr.below hlo (fun k hk => h.low k hk), fun b o v hc hne => (q4.cell (World.block_lt_of_cell? _ _ hc) hne).trans hc⟩

set_option maxRecDepth 4000 in
set_option maxHeartbeats 2000000 in
theorem mayBe_gen {f : Fi} (hf : FiB 4294967296 f) (p : Option Addr) (c : Nat) (w : World) :
    Calls Tryz.prog 41 #[.agg #[.string (strB f.nm), .slice p f.dat.length c, .int .i64 f.syn]] w fun e w' => e = .returned (.bool (decide f.fit)) ∧ Below w.heap.size w w' := by
  have hN := fun X => isName_any (strB f.nm) X
  rw [bs_strB hf.nb] at hN
  have B := (Below.refl w.heap.size w).alloc (Nat.le_refl _) (.cells #[.string (strB f.nm), .slice p f.dat.length c, .int .i64 f.syn] 74)
  obtain ⟨r, hr⟩ : ∃ r, decide f.fit = r := ⟨_, rfl⟩
  rw [hr]
  have hr0 : Hid (¬ f.fit → r = false) := ⟨fun h => by rw [← hr]; exact decide_eq_false h⟩
  have hr1 : Hid (f.fit → r = true) := ⟨fun h => by rw [← hr]; exact decide_eq_true h⟩
  clear hr
  generalize strB f.nm = s at *
  by_cases h0 : named f.nm
  · rw [decide_eq_true h0] at hN
    by_cases h1 : f.dat.length ≤ 2097152
    · have g1 : (f.dat.length : Int) ≤ 2097152 := by omega
      by_cases h2 : (0 : Int) ≤ f.syn
      · by_cases h3 : f.syn ≤ (f.dat.length : Int)
        · obtain rfl : r = true := hr1.out ⟨h0, h1, h2, h3⟩
          clear h0 h1
          go_enter Tryz.func41, Tryz.ntmps41
          go_wp2_with (go_at_call 84; refine (hN _).mono ?_; rintro e w1 ⟨rfl, rfl⟩)
          go_ret
          exact ⟨rfl, B⟩
        · obtain rfl : r = false := hr0.out (fun h => h3 h.2.2.2)
          clear h0 h1
          go_enter Tryz.func41, Tryz.ntmps41
          go_wp2_with (go_at_call 84; refine (hN _).mono ?_; rintro e w1 ⟨rfl, rfl⟩)
          go_ret
          exact ⟨by show Ending.returned (.bool (decide (f.syn ≤ (f.dat.length : Int)))) = _; rw [decide_eq_false (by omega)], B⟩
      · obtain rfl : r = false := hr0.out (fun h => h2 h.2.2.1)
        clear h0 h1
        go_enter Tryz.func41, Tryz.ntmps41
        go_wp2_with (go_at_call 84; refine (hN _).mono ?_; rintro e w1 ⟨rfl, rfl⟩)
        go_ret
        exact ⟨rfl, B⟩
    · have g1 : ¬ (f.dat.length : Int) ≤ 2097152 := by omega
      obtain rfl : r = false := hr0.out (fun h => h1 h.2.1)
      clear h0 h1
      go_enter Tryz.func41, Tryz.ntmps41
      go_wp2_with (go_at_call 84; refine (hN _).mono ?_; rintro e w1 ⟨rfl, rfl⟩)
      go_ret
      exact ⟨rfl, B⟩
  · rw [decide_eq_false h0] at hN
    obtain rfl : r = false := hr0.out (fun h => h0 h.1)
    clear h0
    go_enter Tryz.func41, Tryz.ntmps41
    go_wp2_with (go_at_call 84; refine (hN _).mono ?_; rintro e w1 ⟨rfl, rfl⟩)
    go_ret
    exact ⟨rfl, B⟩
/-- What NewDisk answers: a disk of these files, or none. -/
def NdP (r : Option (List Fl)) (w : World) (e : Ending) (w' : World) : Prop := Below w.heap.size w w' ∧ match r with
  | none => e = .returned (.tuple #[.pointer none, .int .i64 195])
  | some fs => ∃ S db, e = .returned (.tuple #[.pointer (some ⟨db, 0, none⟩), .int .i64 0]) ∧ DiskAt w' w.heap.size S db ⟨fs, false, none, 0, 0⟩
set_option maxRecDepth 8000 in
set_option maxHeartbeats 4000000 in
theorem newDisk_any (L : List Fi) (hf : ∀ f ∈ L, FiB 4294967296 f) (hl63 : L.length ≤ 4611686018427387904) (a : Option Addr) (cap : Nat) (w : World) (hA : FiAt w a L) :
    Calls Tryz.prog 11 #[.slice a L.length cap] w (NdP (newD L) w) := by
  obtain ⟨R, hR⟩ : ∃ R, newD L = R := ⟨_, rfl⟩
  rw [hR]
  by_cases h40 : 40 < L.length
  · have h40' : (40 : Int) < (L.length : Int) := by omega
    have hRn : R = none := by rw [← hR]; unfold newD; rw [if_pos h40]
    subst hRn
    clear hR hA hf h40
    go_enter Tryz.func11, Tryz.ntmps11
    go_wp2
    go_ret2
    exact ⟨Below.refl _ _, rfl⟩
  replace hR : Hid (mkD [] (L.drop 0) = R) := ⟨by rw [List.drop_zero, ← hR]; unfold newD; rw [if_neg h40]⟩
  have hmm := @run_makeMap Tryz.prog
  have ho := World.ownsMap_made w Tryz.prog 9 bR
  obtain ⟨W1, hW1⟩ : ∃ W1, w.alloc (.map #[] 0) = W1 := ⟨_, rfl⟩
  obtain ⟨W2, hW2⟩ : ∃ W2, W1.alloc (.cells #[.map (some w.heap.size), .bool false, .int .i64 0, .int .i64 0, .int .i64 0, .bool false] 98) = W2 := ⟨_, rfl⟩
  have e1 : W1.heap.size = w.heap.size + 1 := by rw [← hW1]; simp
  have e2 : W2.heap.size = w.heap.size + 2 := by rw [← hW2]; simp [e1]
  have hb1 : Below w.heap.size w W1 := by rw [← hW1]; exact (Below.refl _ _).alloc (Nat.le_refl _) _
  have hb2 : Below W1.heap.size W1 W2 := by rw [← hW2]; exact (Below.refl _ _).alloc (Nat.le_refl _) _
  have hr : W2.heap[w.heap.size + 1]? = some (dkRow w.heap.size dk0) := by
    rw [← hW2, ← e1]
    exact heap_new W1 _
  rw [hW1] at ho
  have hL : Lay W2 w.heap.size (fun k => k = w.heap.size ∨ k = w.heap.size + 1) (w.heap.size + 1) dk0 w.heap.size (.map []) (fun _ => 0) (fun _ => .pointer none) :=
    ⟨ok0, rigs0, hr, ownsMap_grS (S := fun _ => False) ho (.of_below hb2) (fun h => h), Ties.none _, fun f hf => by simp [dk0] at hf, .inr rfl, .inl rfl, fun f hf => by simp [dk0] at hf, fun f hf => by simp [dk0] at hf, fun k hk => by omega, fun k hk => by omega, fun f hf => by simp [dk0] at hf, fun f hf => by simp [dk0] at hf⟩
  rw [← e1] at hL
  have hD : Hid (∃ fs S, fs.length = 0 ∧ DiskAt W2 w.heap.size S W1.heap.size ⟨fs, false, none, 0, 0⟩ ∧ mkD fs (L.drop 0) = R) := ⟨[], _, rfl, ⟨_, _, _, _, hL⟩, hR.out⟩
  have hB : Hid (Below w.heap.size w W2) := ⟨below_step hb1 hb2⟩
  have h40' : ¬ (40 : Int) < (L.length : Int) := by omega
  clear hL hr hb1 hb2 ho e1 e2
  go_enter Tryz.func11, Tryz.ntmps11
  go_wp2
  go_loopw [15] (fun v wr => ∃ i : Nat, i ≤ L.length ∧ v = .int .i64 (i : Int) ∧ (∃ fs S, fs.length = i ∧ DiskAt wr w.heap.size S W1.heap.size ⟨fs, false, none, 0, 0⟩ ∧ mkD fs (L.drop i) = R) ∧ Below w.heap.size w wr) (fun v _ => L.length - (intOf v).toNat)
  case atStart => exact ⟨0, Nat.zero_le _, rfl, hD.out, hB.out⟩
  case round =>
    clear hD hB hmm hW1 hW2
    obtain ⟨i, hi, rfl, ⟨fs, S, hfl, hD, hRi⟩, hb⟩ := hrel
    by_cases hlt : i < L.length
    · have hlt' : (i : Int) < (L.length : Int) := by omega
      have hi0 : (0 : Int) ≤ (i : Int) := by omega
      have hfi := hf L[i] (List.getElem_mem hlt)
      obtain ⟨b, off, rfl, hbl, hc⟩ := (hA.later hb).resolve_left (fun e => by rw [e] at hlt; simp at hlt)
      obtain ⟨q0, ⟨p, c, q1, hpc, hlc, hby⟩, q2⟩ := hc i hlt
      have hbad := fun h => (mkD_bad (fs := fs) hlt h).symm.trans hRi
      have hgood := fun h1 h2 => (mkD_good (fs := fs) hlt h1 h2).symm.trans hRi
      clear hc
      generalize L[i] = f at *
      have hh0 := fun X (hX : Below wr.heap.size wr X) => has_any (nm := f.nm) hfi.nl hfi.nb X (hD.later hX)
      by_cases hg : (get fs f.nm).isSome = true
      · simp only [hg] at hh0
        have hRn := hbad (.inl hg)
        subst hRn
        obtain ⟨w1, hw1⟩ : ∃ w1, wr.alloc (.cells #[.string (strB f.nm), .slice p f.dat.length c, .int .i64 f.syn] 74) = w1 := ⟨_, rfl⟩
        have B1 : Below wr.heap.size wr w1 := by rw [← hw1]; exact (Below.refl _ _).alloc (Nat.le_refl _) _
        have r1 : w1.heap[wr.heap.size]? = some (.cells #[.string (strB f.nm), .slice p f.dat.length c, .int .i64 f.syn] 74 (0, 0)) := by rw [← hw1]; exact heap_new wr _
        have x0 := cell_of_row _ _ 0 _ _ _ r1
        simp only [List.getElem?_toArray, List.getElem?_cons_zero] at x0
        have hbf : Hid (Below w.heap.size w w1) := ⟨below_step hb B1⟩
        have hh1 := hh0 w1 B1
        clear hbad hgood hh0 hD hby hA hf hfi hg hR hRi r1 hpc hlc
        go_wp2_with (go_at_call 40; refine hh1.mono ?_; rintro e w2 ⟨rfl, hw2⟩; subst w2)
        go_ret2
        exact ⟨hbf.out, rfl⟩
      have hnew : get fs f.nm = none := by
        cases hq : get fs f.nm with
        | none => rfl
        | some z => rw [hq] at hg; exact absurd rfl hg
      by_cases hfit0 : f.fit
      rotate_left
      · simp only [hnew, Option.isSome_none] at hh0
        have hRn := hbad (.inr hfit0)
        subst hRn
        have hmb := fun X => mayBe_gen hfi p c X
        rw [decide_eq_false hfit0] at hmb
        obtain ⟨w1, hw1⟩ : ∃ w1, wr.alloc (.cells #[.string (strB f.nm), .slice p f.dat.length c, .int .i64 f.syn] 74) = w1 := ⟨_, rfl⟩
        have B1 : Below wr.heap.size wr w1 := by rw [← hw1]; exact (Below.refl _ _).alloc (Nat.le_refl _) _
        have r1 : w1.heap[wr.heap.size]? = some (.cells #[.string (strB f.nm), .slice p f.dat.length c, .int .i64 f.syn] 74 (0, 0)) := by rw [← hw1]; exact heap_new wr _
        have x0 := cell_of_row _ _ 0 _ _ _ r1
        have x1 := cell_of_row _ _ 1 _ _ _ r1
        have x2 := cell_of_row _ _ 2 _ _ _ r1
        simp only [List.getElem?_toArray, List.getElem?_cons_zero, List.getElem?_cons_succ] at x0 x1 x2
        have hbf : Hid (Below w.heap.size w w1) := ⟨below_step hb B1⟩
        have hh1 := hh0 w1 B1
        replace hmb := Hid.mk hmb
        clear hbad hgood hh0 hD hby hA hf hfi hg hR hRi r1 hpc hlc hnew hfit0
        go_wp2_with (first | (go_at_call 40; refine hh1.mono ?_; rintro e w2 ⟨rfl, hw2⟩; subst w2) | (go_at_call 41; refine (hmb.out _).mono ?_; rintro e w3 ⟨rfl, hb3⟩; replace hb3 := Hid.mk hb3))
        go_ret2
        exact ⟨below_step hbf.out hb3.out, rfl⟩
      have hR2 := Hid.mk (hgood hnew hfit0)
      have hfi2 := hfi
      obtain ⟨x, hx⟩ : ∃ x, f.fl = x := ⟨_, rfl⟩
      have e1 : f.nm = x.nm := by rw [← hx]; rfl
      have e2 : f.dat = x.dat := by rw [← hx]; rfl
      have e3 : f.syn = (x.sure : Int) := by rw [← hx]; exact (Int.toNat_of_nonneg hfit0.2.2.1).symm
      have hfit : Fit2 x := ⟨e1 ▸ hfit0.1, e2 ▸ hfit0.2.1, by have := hfit0.2.2.2; rw [e3, e2] at this; omega, e2 ▸ hby.1⟩
      rw [hx] at hR2
      have hmb := fun X => mayBe_gen hfi p c X
      rw [decide_eq_true hfit0, e1, e2, e3] at hmb
      rw [e1] at hnew q0
      rw [e2] at q1 hlc hby
      rw [e3] at q2
      have hlen : fs.length < 40 := by omega
      clear hbad hgood hh0 hfi hfi2 hg hfit0 hRi hR
      clear hx e1 e2 e3
      have hnext : Hid (∀ X, (∃ S1, DiskAt X w.heap.size S1 W1.heap.size ⟨ins fs x, false, none, 0, 0⟩) → ∃ fs' S1, fs'.length = i + 1 ∧ DiskAt X w.heap.size S1 W1.heap.size ⟨fs', false, none, 0, 0⟩ ∧ mkD fs' (L.drop (i + 1)) = R) := ⟨fun X hX => by obtain ⟨S1, hS⟩ := hX; exact ⟨_, S1, by rw [ins_len, hfl], hS, hR2.out⟩⟩
      clear f
      rename Fl => f
      have hh := fun X (hX : Below wr.heap.size wr X) => has_any (nm := f.nm) (Nat.le_trans hfit.nm.2.2 (by decide)) (named_lt hfit.nm) X (hD.later hX)
      simp only [hnew, Option.isSome_none] at hh
      obtain ⟨w1, hw1⟩ : ∃ w1, wr.alloc (.cells #[.string (strB f.nm), .slice p f.dat.length c, .int .i64 (f.sure : Int)] 74) = w1 := ⟨_, rfl⟩
      have B1 : Below wr.heap.size wr w1 := by rw [← hw1]; exact (Below.refl _ _).alloc (Nat.le_refl _) _
      have r1 : w1.heap[wr.heap.size]? = some (.cells #[.string (strB f.nm), .slice p f.dat.length c, .int .i64 (f.sure : Int)] 74 (0, 0)) := by rw [← hw1]; exact heap_new wr _
      have x0 := cell_of_row _ _ 0 _ _ _ r1
      have x1 := cell_of_row _ _ 1 _ _ _ r1
      have x2 := cell_of_row _ _ 2 _ _ _ r1
      simp only [List.getElem?_toArray, List.getElem?_cons_zero, List.getElem?_cons_succ] at x0 x1 x2
      replace hD := Hid.mk hD
      replace hb := Hid.mk hb
      replace hby := Hid.mk hby
      replace hfit := Hid.mk hfit
      replace hh := Hid.mk hh
      replace hmb := Hid.mk hmb
      replace hA := Hid.mk hA
      replace hnew := Hid.mk hnew
      clear hf
      obtain ⟨mb, D, fb, vv, hL⟩ := hD.out
      have hlo : w.heap.size ≤ wr.heap.size := hb.out.size
      obtain ⟨c0, -⟩ := hL.cells
      have hdl := hL.hi _ hL.Sdb
      have hne1 : W1.heap.size ≠ mb := fun e => map_ne_row hL.map hL.row e
      have hne2 : wr.heap.size ≠ mb := by have := hL.hi _ hL.Smb; omega
      have hcl := Hid.mk (fun w4 w5 p5 c5 B4 ho hb5 => add_clone2 (w4 := w4) (w5 := w5) (p5 := p5) (n := f.dat.length) (c5 := c5) hL hlo B4 rfl ho hb5 hnew.out hfit.out hlen)
      have hK := Hid.mk (fun X (hX : Below w1.heap.size w1 X) => (show _ ∧ _ ∧ _ ∧ _ from ⟨((below_step B1 hX).cell (p := ⟨W1.heap.size, 0, none⟩) hdl).trans c0, (hX.cell (p := ⟨wr.heap.size, 0, none⟩) (World.block_lt_of_cell? _ _ x0)).trans x0, (hX.cell (p := ⟨wr.heap.size, 1, none⟩) (World.block_lt_of_cell? _ _ x1)).trans x1, (hX.cell (p := ⟨wr.heap.size, 2, none⟩) (World.block_lt_of_cell? _ _ x2)).trans x2⟩))
      have hsc := fun X => sclone (strB f.nm) (by rw [strB_size]; exact Nat.le_trans hfit.out.nm.2.2 (by decide)) X
      have hbc := Hid.mk (fun X (hX : Below wr.heap.size wr X) => bclone_any p c hpc f.dat (Nat.le_trans hfit.out.siz (by decide)) X (hby.out.later hX))
      clear hL c0 hlo hdl
      go_upto_region 9 with (first | (go_at_call 40; refine (hh.out w1 B1).mono ?_; rintro e w2 ⟨rfl, hw2⟩; subst w2) | (go_at_call 41; refine (hmb.out _).mono ?_; rintro e w3 ⟨rfl, hb3⟩))
      have hb3' := below_step hb3 ((Below.refl _ _).drew)
      have S3 := hK.out _ hb3
      have S3' := hK.out _ hb3'
      clear hw1 r1 x0 x1 x2 hh hmb
      go_region_held3 (fun X => X.cell? ⟨W1.heap.size, 0, none⟩ = some (.map (some mb)) ∧ X.cell? ⟨wr.heap.size, 0, none⟩ = some (.string (strB f.nm)) ∧ X.cell? ⟨wr.heap.size, 1, none⟩ = some (.slice p f.dat.length c) ∧ X.cell? ⟨wr.heap.size, 2, none⟩ = some (.int .i64 (f.sure : Int))) (with_reducible assumption) (first | (go_at_call 42; refine (hsc _).mono ?_; rintro e w4 ⟨rfl, hb4⟩; have b4 := below_step hb3' hb4; have S4 := hK.out _ b4; have B4 := below_step B1 b4) | (go_at_call 35; refine (hbc.out _ B4).mono ?_; rintro e w5 ⟨p5, c5, rfl, ho5, hb5⟩; have b5 := below_step b4 hb5; have S5 := hK.out _ b5; have S6 := hK.out _ (below_step b5 ((Below.refl _ _).alloc (Nat.le_refl _) (.cells #[.slice p5 f.dat.length c5, .int .i64 (f.sure : Int)] 100))); obtain ⟨w9, hrun, hD9, hB9, G9⟩ := hcl.out w4 w5 p5 c5 B4 ho5 hb5; have S9 := And.intro (G9 _ _ _ S6.1 hne1) (And.intro (G9 _ _ _ S6.2.1 hne2) (And.intro (G9 _ _ _ S6.2.2.1 hne2) (G9 _ _ _ S6.2.2.2 hne2)))))
      replace hD9 := Hid.mk (hnext.out _ hD9)
      replace hB9 := Hid.mk (hb.out.trans hB9)
      clear S3 S3' S4 S5 S6 S9 G9 hrun ho5 hcl hK hnext
      go_wp2
      go_roundw
      case rel => exact ⟨i + 1, by omega, by first | rfl | go_num, hD9.out, hB9.out⟩
      case measure => simp [intOf]; omega
    · have hlt' : ¬ (i : Int) < (L.length : Int) := by omega
      obtain rfl : i = L.length := by omega
      rw [mkD_end] at hRi
      have hRR := (show ∃ S' db', Ending.returned (.tuple #[.pointer (some ⟨W1.heap.size, 0, none⟩), .int .i64 0]) = .returned (.tuple #[.pointer (some ⟨db', 0, none⟩), .int .i64 0]) ∧ DiskAt wr w.heap.size S' db' ⟨fs, false, none, 0, 0⟩ from ⟨S, _, rfl, hD⟩)
      subst hRi
      replace hRR := Hid.mk hRR
      clear hD hR
      replace hb := Hid.mk hb
      go_wp2
      go_ret2
      exact ⟨hb.out, hRR.out⟩
end Go.Proofs.YthbojlbgjmecoaaGreat.DJ

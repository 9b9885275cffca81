import Derived.Test.YthbojlbgjmecoaaGreatTurnRdO
/- levyref19's NewDisk. -/
namespace Go.Proofs.YthbojlbgjmecoaaGreat.DJ
open Go.RowKit
set_option linter.constructorNameAsVariable false

/-- What the document's NewDisk answers: a disk of these files, or none. -/
def RnP (r : Option (List Fl)) (w : World) (e : Ending) (w' : World) : Prop := Below w.heap.size w w' ∧ match r with
  | none => e = .returned (.tuple #[.pointer none, .int .i64 195])
  | some fs => ∃ T rb, e = .returned (.tuple #[.pointer (some ⟨rb, 0, none⟩), .int .i64 0]) ∧ RdAt w' T rb ⟨fs, false, none, 0, 0⟩ ∧ ∀ k, T k → w.heap.size ≤ k
theorem FfT.wide {T T' : Nat → Prop} {w : World} {v : Value} {R : List Fl} (h : FfT w T v R) (ht : ∀ k, T k → T' k) : FfT w T' v R := h.mono (fun k _ hk => ht k hk)
theorem RdAt.wide {T T' : Nat → Prop} {w : World} {rb : Nat} {d : Dk} (h : RdAt w T rb d) (ht : ∀ k, T k → T' k) (hl : ∀ k, T' k → k < w.heap.size) : RdAt w T' rb d := by
  obtain ⟨h1, h2, ⟨v, h3, h4⟩, h5, h6⟩ := h
  exact ⟨h1, h2, ⟨v, h3, h4.wide ht⟩, ht _ h5, hl⟩
set_option maxRecDepth 8000 in
set_option maxHeartbeats 8000000 in
theorem rnewDisk_any (L : List Fi) (hf : ∀ f ∈ L, FiB 4294967296 f) (hl63 : L.length ≤ 4611686018427387904) (a : Option Addr) (cap : Nat) (w : World) (hA : FiAt w a L) : Calls Tryz.prog 10 #[.slice a L.length cap] w (RnP (newD L) w) := by
  obtain ⟨R, hR⟩ : ∃ R, newD L = R := ⟨_, rfl⟩
  rw [hR]
  by_cases h40 : 40 < L.length
  · have h40' : (40 : Int) < (L.length : Int) := by omega
    have hRn : R = none := by rw [← hR]; unfold newD; rw [if_pos h40]
    subst hRn
    have hbf : Hid (Below w.heap.size w (w.alloc (.cells #[.slice none 0 0, .bool false, .int .i64 (-1), .int .i64 0, .int .i64 0] 102))) := ⟨(Below.refl _ _).alloc (Nat.le_refl _) _⟩
    clear hR hA hf h40
    go_enter Tryz.func10, Tryz.ntmps10
    go_wp2
    go_ret2
    exact ⟨hbf.out, rfl⟩
  replace hR : Hid (mkD [] (L.drop 0) = R) := ⟨by rw [List.drop_zero, ← hR]; unfold newD; rw [if_neg h40]⟩
  have hnew := RdAt.new w
  obtain ⟨W1, hW1⟩ : ∃ W1, w.alloc (.cells #[.slice none 0 0, .bool false, .int .i64 (-1), .int .i64 0, .int .i64 0] 102) = W1 := ⟨_, rfl⟩
  have hB : Hid (Below w.heap.size w W1) := ⟨by rw [← hW1]; exact (Below.refl _ _).alloc (Nat.le_refl _) _⟩
  rw [hW1] at hnew
  have hD0 : Hid (∃ fs T, fs.length = 0 ∧ RdAt W1 T w.heap.size ⟨fs, false, none, 0, 0⟩ ∧ (∀ k, T k → w.heap.size ≤ k) ∧ mkD fs (L.drop 0) = R) := ⟨[], _, rfl, hnew, fun k hk => by rw [hk]; exact Nat.le_refl _, hR.out⟩
  have h40' : ¬ (40 : Int) < (L.length : Int) := by omega
  clear hnew
  go_enter Tryz.func10, Tryz.ntmps10
  go_wp2
  go_loopw [5] (fun v wr => ∃ i : Nat, i ≤ L.length ∧ v = .int .i64 (i : Int) ∧ (∃ fs T, fs.length = i ∧ RdAt wr T w.heap.size ⟨fs, false, none, 0, 0⟩ ∧ (∀ k, T k → w.heap.size ≤ k) ∧ mkD fs (L.drop i) = R) ∧ Below w.heap.size w wr) (fun v _ => L.length - (intOf v).toNat)
  case atStart => exact ⟨0, Nat.zero_le _, rfl, hD0.out, hB.out⟩
  case round =>
    clear hD0 hB hW1
    obtain ⟨i, hi, rfl, ⟨fs, T, hfl, hD, hTl, hRi⟩, hb⟩ := hrel
    by_cases hlt : i < L.length
    · have hlt' : (i : Int) < (L.length : Int) := by omega
      have hi0 : (0 : Int) ≤ (i : Int) := by omega
      have hfi := hf L[i] (List.getElem_mem hlt)
      obtain ⟨b, off, rfl, hbl, hc⟩ := (hA.later hb).resolve_left (fun e => by rw [e] at hlt; simp at hlt)
      obtain ⟨q0, ⟨p, c, q1, hpc, hlc, hby⟩, q2⟩ := hc i hlt
      have hbad := fun h => (mkD_bad (fs := fs) hlt h).symm.trans hRi
      have hgood := fun h1 h2 => (mkD_good (fs := fs) hlt h1 h2).symm.trans hRi
      clear hc
      generalize L[i] = f at *
      obtain ⟨w1, hw1⟩ : ∃ w1, wr.alloc (.cells #[.string (strB f.nm), .slice p f.dat.length c, .int .i64 f.syn] 74) = w1 := ⟨_, rfl⟩
      have B1 : Below wr.heap.size wr w1 := by rw [← hw1]; exact (Below.refl _ _).alloc (Nat.le_refl _) _
      have r1 : w1.heap[wr.heap.size]? = some (.cells #[.string (strB f.nm), .slice p f.dat.length c, .int .i64 f.syn] 74 (0, 0)) := by rw [← hw1]; exact heap_alloc_new _ _
      have r1l : wr.heap.size < w1.heap.size := by rw [← hw1]; simp
      have hK : Hid (∀ Y, Below w1.heap.size w1 Y → Y.cell? ⟨wr.heap.size, 0, none⟩ = some (.string (strB f.nm)) ∧ Y.cell? ⟨wr.heap.size, 1, none⟩ = some (.slice p f.dat.length c) ∧ Y.cell? ⟨wr.heap.size, 2, none⟩ = some (.int .i64 f.syn)) := ⟨fun Y hY => by
        have h := (hY.block _ r1l).trans r1
        exact ⟨cell_of_row _ _ 0 _ _ _ h, cell_of_row _ _ 1 _ _ _ h, cell_of_row _ _ 2 _ _ _ h⟩⟩
      obtain ⟨x0, x1, x2⟩ := hK.out w1 (Below.refl _ _)
      have hnm1 := fun X => rnamed_any (strB f.nm) (by rw [strB_size]; exact hfi.nl) X
      rw [bs_strB hfi.nb] at hnm1
      have hD1 := hD.later B1
      have hpl1 := place_any (nm := f.nm) hfi.nb w1 hD1
      have hple := plc_le fs f.nm
      obtain ⟨kp, hkp⟩ : ∃ kp, plc fs f.nm = kp := ⟨_, rfl⟩
      simp only [hkp] at hpl1 hple
      have hbf : Hid (Below w.heap.size w w1) := ⟨below_step hb B1⟩
      have hfit1 : f.fit → named f.nm ∧ f.dat.length ≤ 2097152 ∧ 0 ≤ f.syn ∧ f.syn ≤ (f.dat.length : Int) := id
      by_cases hn : named f.nm
      rotate_left
      · have hRn := hbad (.inr (fun h => hn h.1))
        subst hRn
        rw [decide_eq_false hn] at hnm1
        obtain ⟨g, hg⟩ : ∃ g, (get fs f.nm).isSome = g := ⟨_, rfl⟩
        simp only [hg] at hpl1
        replace hnm1 := hnm1
        clear hbad hgood hD hby hA hf hfi hR hRi hpc hlc hfl hTl hD1 hfit1
        go_wp2_with (first | (go_at_call 37; refine (hnm1 _).mono ?_; rintro e w2 ⟨rfl, hw2⟩; subst w2) | (go_at_call 38; refine hpl1.mono ?_; rintro e w3 ⟨rfl, hb3⟩; obtain ⟨y0, y1, y2⟩ := hK.out w3 hb3; replace hb3 := Hid.mk hb3))
        go_ret2
        exact ⟨below_step hbf.out hb3.out, rfl⟩
      rw [decide_eq_true hn] at hnm1
      by_cases hg : (get fs f.nm).isSome = true
      · have hRn := hbad (.inl hg)
        subst hRn
        simp only [hg] at hpl1
        clear hbad hgood hD hby hA hf hfi hR hRi hpc hlc hfl hTl hD1 hfit1
        go_wp2_with (first | (go_at_call 37; refine (hnm1 _).mono ?_; rintro e w2 ⟨rfl, hw2⟩; subst w2) | (go_at_call 38; refine hpl1.mono ?_; rintro e w3 ⟨rfl, hb3⟩; obtain ⟨y0, y1, y2⟩ := hK.out w3 hb3; replace hb3 := Hid.mk hb3))
        go_ret2
        exact ⟨below_step hbf.out hb3.out, rfl⟩
      have hnew : get fs f.nm = none := by
        cases hq : get fs f.nm with
        | none => rfl
        | some z => rw [hq] at hg; exact absurd rfl hg
      simp only [hnew, Option.isSome_none] at hpl1
      by_cases h1 : f.dat.length ≤ 2097152
      rotate_left
      · have hRn := hbad (.inr (fun h => h1 h.2.1))
        subst hRn
        have g1 : (2097152 : Int) < (f.dat.length : Int) := by omega
        clear hbad hgood hD hby hA hf hfi hR hRi hpc hlc hfl hTl hD1 hfit1
        go_wp2_with (first | (go_at_call 37; refine (hnm1 _).mono ?_; rintro e w2 ⟨rfl, hw2⟩; subst w2) | (go_at_call 38; refine hpl1.mono ?_; rintro e w3 ⟨rfl, hb3⟩; obtain ⟨y0, y1, y2⟩ := hK.out w3 hb3; replace hb3 := Hid.mk hb3))
        go_ret2
        exact ⟨below_step hbf.out hb3.out, rfl⟩
      have g1 : ¬ (2097152 : Int) < (f.dat.length : Int) := by omega
      by_cases h2 : (0 : Int) ≤ f.syn
      rotate_left
      · have hRn := hbad (.inr (fun h => h2 h.2.2.1))
        subst hRn
        have g2 : f.syn < 0 := by omega
        clear hbad hgood hD hby hA hf hfi hR hRi hpc hlc hfl hTl hD1 hfit1
        go_wp2_with (first | (go_at_call 37; refine (hnm1 _).mono ?_; rintro e w2 ⟨rfl, hw2⟩; subst w2) | (go_at_call 38; refine hpl1.mono ?_; rintro e w3 ⟨rfl, hb3⟩; obtain ⟨y0, y1, y2⟩ := hK.out w3 hb3; replace hb3 := Hid.mk hb3))
        go_ret2
        exact ⟨below_step hbf.out hb3.out, rfl⟩
      have g2 : ¬ f.syn < 0 := by omega
      by_cases h3 : f.syn ≤ (f.dat.length : Int)
      rotate_left
      · have hRn := hbad (.inr (fun h => h3 h.2.2.2))
        subst hRn
        have g3 : (f.dat.length : Int) < f.syn := by omega
        clear hbad hgood hD hby hA hf hfi hR hRi hpc hlc hfl hTl hD1 hfit1
        go_wp2_with (first | (go_at_call 37; refine (hnm1 _).mono ?_; rintro e w2 ⟨rfl, hw2⟩; subst w2) | (go_at_call 38; refine hpl1.mono ?_; rintro e w3 ⟨rfl, hb3⟩; obtain ⟨y0, y1, y2⟩ := hK.out w3 hb3; replace hb3 := Hid.mk hb3))
        go_ret2
        exact ⟨below_step hbf.out hb3.out, rfl⟩
      have g3 : ¬ (f.dat.length : Int) < f.syn := by omega
      have hR2 := Hid.mk (hgood hnew ⟨hn, h1, h2, h3⟩)
      have hlen : fs.length < 40 := by omega
      have hsyn : f.syn = (f.fl.sure : Int) := (Int.toNat_of_nonneg h2).symm
      have hcp := fun Y (hY : Below w1.heap.size w1 Y) => copied_any p c hpc f.dat (by omega) Y ((hby.later B1).later hY)
      have hAdd : Hid (∀ Y, Below w1.heap.size w1 Y → ∀ p3 c3 w3, w3.ownsRow Y.heap.size 5 1 (.slice p3 f.dat.length c3) f.dat.length (bysV f.dat) → Below Y.heap.size Y w3 → Calls Tryz.prog 39 #[.pointer (some ⟨w.heap.size, 0, none⟩), .agg #[.string (strB f.nm), .slice p3 f.dat.length c3, .int .i64 f.syn]] w3 fun e w' => e = .returned (.tuple #[]) ∧ (∃ fs' T', fs'.length = i + 1 ∧ RdAt w' T' w.heap.size ⟨fs', false, none, 0, 0⟩ ∧ (∀ k, T' k → w.heap.size ≤ k) ∧ mkD fs' (L.drop (i + 1)) = R) ∧ Below w.heap.size w w') := ⟨fun Y hY p3 c3 w3 ho hb3 => by
        have hY3 := below_step hY hb3
        have hB3 : Below w.heap.size w w3 := below_step hbf.out hY3
        have hrd := (hD1.later hY3).wide (T' := fun k => T k ∨ (Value.slice p3 f.dat.length c3).ownBlock = some k) (fun k hk => .inl hk) (fun k hk => hk.elim (fun h => Nat.lt_of_lt_of_le (hD1.hi k h) hY3.size) (fun h => (ho.lt k h).2))
        have := radd_any (f := f.fl) (x := .slice p3 f.dat.length c3) (fun k hk => .inr hk) (by exact hlen) (fun g hg e => (get_none.1 hnew) g hg e) hn h1 (by rw [hsyn] at h3; exact Int.ofNat_le.1 h3) hby.1 w3 hrd (ho.mono (Nat.zero_le _))
        rw [← hsyn] at this
        refine this.mono ?_
        rintro e w' ⟨rfl, T', h5, h6⟩
        have hTb : ∀ k, T' k → w.heap.size ≤ k := fun k hk => by
          rcases h6.sub k hk with (h | h) | h
          · exact hTl k h
          · have := (ho.lt k h).1
            have := hY.size
            have := hbf.out.size
            omega
          · have := hB3.size
            omega
        refine ⟨rfl, ⟨_, T', by rw [ins_len, hfl], h5, hTb, hR2.out⟩, hB3.trans (h6.gr.below hB3.size (fun k hk => hk.elim (hTl k) (fun h => ?_)))⟩
        have := (ho.lt k h).1
        have := hY.size
        have := hbf.out.size
        omega⟩
      replace hcp := Hid.mk hcp
      clear hbad hgood hD hby hA hf hfi hR hRi hpc hlc hfl hTl hR2 hnew hg hsyn hD1 hn h1 h2 h3 hfit1
      go_wp2_with (first | (go_at_call 37; refine (hnm1 _).mono ?_; rintro e w2 ⟨rfl, hw2⟩; subst w2) | (go_at_call 38; refine hpl1.mono ?_; rintro e w3 ⟨rfl, hb3⟩; obtain ⟨y0, y1, y2⟩ := hK.out w3 hb3; replace hb3 := Hid.mk hb3) | (go_at_call 36; refine (hcp.out w3 hb3.out).mono ?_; rintro e w4 ⟨p4, c4, rfl, ho4, hb4⟩; obtain ⟨z0, z1, z2⟩ := hK.out w4 (below_step hb3.out hb4); have hadd := hAdd.out w3 hb3.out p4 c4 w4 ho4 hb4; replace ho4 := Hid.mk ho4; replace hb4 := Hid.mk hb4) | (go_at_call 39; refine hadd.mono ?_; rintro e w5 ⟨rfl, hI5, hb5⟩; replace hI5 := Hid.mk hI5; replace hb5 := Hid.mk hb5))
      exact ⟨⟨i + 1, hlt, rfl, hI5.out, hb5.out⟩, by simp only [intOf]; omega⟩
    · have hlt' : ¬ (i : Int) < (L.length : Int) := by omega
      obtain rfl : i = L.length := by omega
      rw [mkD_end] at hRi
      have hRR := (show ∃ T' rb', Ending.returned (.tuple #[.pointer (some ⟨w.heap.size, 0, none⟩), .int .i64 0]) = .returned (.tuple #[.pointer (some ⟨rb', 0, none⟩), .int .i64 0]) ∧ RdAt wr T' rb' ⟨fs, false, none, 0, 0⟩ ∧ ∀ k, T' k → w.heap.size ≤ k from ⟨T, _, rfl, hD, hTl⟩)
      subst hRi
      replace hRR := Hid.mk hRR
      replace hb := Hid.mk hb
      clear hD hR
      go_wp2
      go_ret2
      exact ⟨hb.out, hRR.out⟩
end Go.Proofs.YthbojlbgjmecoaaGreat.DJ


/- The program's Read. -/
namespace Go.Proofs.YthbojlbgjmecoaaGreat.DJ
open Go.RowKit
set_option linter.constructorNameAsVariable false

set_option maxRecDepth 4000 in
set_option maxHeartbeats 2000000 in
theorem pread_any {lo db : Nat} {S : Nat → Prop} {d : Dk} {nm : List Nat} (hl : nm.length ≤ 4294967296) (hb : ∀ x ∈ nm, x < 256) (w : World) (h : DiskAt w lo S db d) : Calls Tryz.prog 23 #[.pointer (some ⟨db, 0, none⟩), .string (strB nm)] w fun e w' => ∃ v, e = .returned (.tuple #[v, .int .i64 ((readR d nm).2 : Int)]) ∧ w'.ownsRow w.heap.size 5 1 v (readR d nm).1.length (bysV (readR d nm).1) ∧ Below w.heap.size w w' := by
  have hre := reach_any hb w h
  have hfi := find_any hl hb w h
  unfold readR
  by_cases hn : named nm
  rotate_left
  · rw [if_pos hn] at hre ⊢
    clear hfi h hn
    generalize strB nm = s at *
    go_enter Tryz.func23, Tryz.ntmps23
    go_wp2_with (go_at_call 77; refine hre.mono ?_; rintro e w1 ⟨rfl, hw⟩; subst w1)
    go_ret2
    exact ⟨.slice none 0 0, rfl, World.ownsRow_nil _ _ _ _, Below.refl _ _⟩
  rw [if_neg (fun g => g hn)] at hre ⊢
  cases hd : d.down with
  | true =>
    rw [hd, if_pos rfl] at hre
    rw [if_pos rfl]
    clear hfi h hn hd
    generalize strB nm = s at *
    go_enter Tryz.func23, Tryz.ntmps23
    go_wp2_with (go_at_call 77; refine hre.mono ?_; rintro e w1 ⟨rfl, hw⟩; subst w1)
    go_ret2
    exact ⟨.slice none 0 0, rfl, World.ownsRow_nil _ _ _ _, Below.refl _ _⟩
  | false =>
    rw [hd, if_neg (by decide)] at hre
    rw [if_neg (by decide)]
    cases hg : get d.fs nm with
    | none =>
      rw [if_pos hg] at hfi
      clear h hn hd hg
      generalize strB nm = s at *
      go_enter Tryz.func23, Tryz.ntmps23
      go_wp2_with (first | (go_at_call 77; refine hre.mono ?_; rintro e w1 ⟨rfl, hw⟩; subst w1) | (go_at_call 78; refine hfi.mono ?_; rintro e w1 ⟨rfl, hw⟩; subst w1))
      go_ret2
      exact ⟨.slice none 0 0, rfl, World.ownsRow_nil _ _ _ _, Below.refl _ _⟩
    | some f =>
      rw [if_neg (by rw [hg]; exact fun h => by cases h)] at hfi
      obtain ⟨mb, D, fb, vv, hL⟩ := h
      obtain ⟨hfm, hnm⟩ := get_some hg
      obtain ⟨c0, -⟩ := hL.cells
      have hlk := hL.look hfm
      have hFA := hL.fil f hfm
      obtain ⟨k0, k1, -, -⟩ := hFA.cells
      have hsiz := hL.ok.siz f hfm
      have hbyt := hL.ok.byt f hfm
      obtain ⟨pv, cv, hv⟩ := own_lenB hFA.dat
      have hFd := hFA.dat
      rw [hv] at k0 hFd
      have hcl := bclone_any pv cv (own_pos hFd).1 f.dat (Nat.le_trans hsiz (by decide)) w (byts_of_own (n := f.dat.length) hbyt hFd)
      generalize fb f.nm = b at *
      have hlk2 : (Instr.lookup 94 (.map (some mb)) (.string (strB nm)) false).run Tryz.prog w = .ok (.pointer (some ⟨b, 0, none⟩)) w := by rw [← hnm]; exact hlk
      clear hL hFA hfm hbyt hsiz hFd hn hd hg hnm hlk
      generalize strB nm = s at *
      go_enter Tryz.func23, Tryz.ntmps23
      go_wp2_with (first | (go_at_call 77; refine hre.mono ?_; rintro e w1 ⟨rfl, hw⟩; subst w1) | (go_at_call 78; refine hfi.mono ?_; rintro e w1 ⟨rfl, hw⟩; subst w1) | (go_at_call 35; refine hcl.mono ?_; rintro e w3 ⟨p3, c3, rfl, ho3, hb3⟩; replace ho3 := Hid.mk ho3; replace hb3 := Hid.mk hb3))
      go_ret2
      exact ⟨_, rfl, ho3.out, hb3.out⟩
end Go.Proofs.YthbojlbgjmecoaaGreat.DJ


/- A room's copy of bytes, whatever lists it has already. -/
namespace Go.Proofs.YthbojlbgjmecoaaGreat.DJ
open Go.RowKit
set_option linter.constructorNameAsVariable false

def mkB (k : Nat) : Int := if k % 2 = 0 then 165 else 90
/-- The first k marks. -/
def mksB (k : Nat) : List Value := (List.range k).map fun i => Value.int .u8 (mkB i)
theorem mksB_two (k : Nat) (h : k % 2 = 0) : mksB (k + 2) = mksB k ++ [.int .u8 165, .int .u8 90] := by
  unfold mksB
  rw [List.range_succ, List.range_succ]
  simp [mkB, h]
  omega
theorem mksB_len (k : Nat) : (mksB k).length = k := by simp [mksB]
theorem infoSb : (Tryz.prog.info? 34).map (fun i => (i.zero, i.size, i.bytes)) = some (some (.slice none 0 0), 1, 24) := by kernel_rfl
theorem own_someB {w : World} {base n size : Nat} {e : TypeId} {v : Value} {xs : List Value} (h : w.ownsRow base e size v n xs) (hn : 0 < n) : ∃ g cap, v = .slice (some ⟨g, 0, none⟩) n cap := by
  obtain ⟨_, h | ⟨g, cap, cur, rfl, _⟩⟩ := h
  · omega
  · exact ⟨g, cap, rfl⟩
theorem own_capB {w : World} {base n size g cap : Nat} {e : TypeId} {xs : List Value} (h : w.ownsRow base e size (.slice (some ⟨g, 0, none⟩) n cap) n xs) : n ≤ cap := by
  obtain ⟨_, h | ⟨g', cap', cur, h1, _, _, h2, _⟩⟩ := h
  · simp at h
  · simp at h1
    omega
theorem cells2_atB (W : World) (n : Nat) (hn : n = W.heap.size) (a b : Value) (t : TypeId) : ∀ j u, ([a, b] : List Value)[j]? = some u → (W.alloc (.cells #[a, b] t)).cell? ((⟨n, 0, none⟩ : Addr).add j) = some u := by
  subst hn
  intro j u h
  match j, h with
  | 0, h => simpa [Addr.add] using h
  | 1, h => simpa [Addr.add] using h
  | j + 2, h => simp at h
theorem one_at (W : World) (n : Nat) (hn : n = W.heap.size) (a : Value) (t : TypeId) : ∀ j u, ([a] : List Value)[j]? = some u → (W.alloc (.cells #[a] t)).cell? ((⟨n, 0, none⟩ : Addr).add j) = some u := by
  subst hn
  intro j u h
  match j, h with
  | 0, h => simpa [Addr.add] using h
  | j + 1, h => simp at h

set_option maxRecDepth 100000 in
set_option maxHeartbeats 8000000 in
theorem rbytes_any (R lo k : Nat) (vb : Value) (xs : List Value) (W : World) (a : Option Addr) (cap : Nat) (bs : List Nat) (hN : Byts W a bs) (hlen : bs.length ≤ 1048576) (hk100 : k ≤ 1048576) (hvb : W.ownsRow lo 34 1 vb k xs) (hlo : lo ≤ W.heap.size) (r1 : W.cell? ⟨R, 0, none⟩ = some vb) (r2 : W.frozen? ⟨R, 0, none⟩ = false) (hne : vb.ownBlock ≠ some R) :
    Calls Tryz.prog 13 #[.pointer (some ⟨R, 0, none⟩), .slice a bs.length cap] W fun e W' => ∃ (g capN : Nat) (vb' : Value) (Wm : World), e = .returned (.slice (some ⟨g, 0, none⟩) bs.length (bs.length + 600)) ∧ W' = Wm.setCell ⟨R, 0, none⟩ vb' ∧ GrS (fun z => vb.ownBlock = some z) W Wm ∧ Wm.ownsRow W.heap.size 5 1 (.slice (some ⟨g, 0, none⟩) (bs.length + 600) capN) (bs.length + 600) (bysV bs ++ mksB 600) ∧ Wm.ownsRow lo 34 1 vb' (k + 1) (xs ++ [.slice (some ⟨g, 0, none⟩) (bs.length + 600) capN]) ∧ (vb'.ownBlock = vb.ownBlock ∨ ∃ z, vb'.ownBlock = some z ∧ W.heap.size ≤ z) := by
  obtain ⟨i0, hi, hz0, hz1, hz2⟩ := info_parts infoB
  obtain ⟨j0, kj, y0, y1, y2⟩ := info_parts infoSb
  have hrow0 := World.ownsRow_lit (base := W.heap.size) (e := 5) (size := 1) W #[] 0 (Nat.le_refl _) (by unfold maxLen; omega) rfl
  have hRlt := World.block_lt_of_cell? _ _ r1
  have hlenI : (bs.length : Int) ≤ 1048576 := by omega
  go_enter Tryz.func13, Tryz.ntmps13
  go_wp2
  have hRH : Hid (∀ Y, Below W.heap.size W Y → Y.cell? ⟨R, 0, none⟩ = some vb ∧ Y.frozen? ⟨R, 0, none⟩ = false) := ⟨fun Y hY => ⟨(hY.cell (p := ⟨R, 0, none⟩) hRlt).trans r1, (hY.frozen (p := ⟨R, 0, none⟩) hRlt).trans r2⟩⟩
  clear r1 r2
  go_loopw [5, 6] (fun v x wr => ∃ k : Nat, k ≤ bs.length ∧ x = .int .i64 k ∧ wr.ownsRow W.heap.size 5 1 v k (bysV (bs.take k)) ∧ Below W.heap.size W wr) (fun _ x _ => bs.length - (intOf x).toNat)
  case atStart => exact ⟨0, by omega, rfl, hrow0, (Below.refl _ _).alloc (Nat.le_refl _) _⟩
  case round =>
    obtain ⟨k2, hk, rfl, ho1, hB1⟩ := hrel
    by_cases hlt : k2 < bs.length
    · obtain ⟨b, off, rfl, hbl, hc⟩ := hN.2.resolve_left (fun e => by rw [e] at hlt; simp at hlt)
      obtain ⟨x, hx⟩ : ∃ x, bs[k2] = x := ⟨_, rfl⟩
      have hcx : wr.cell? ⟨b, off + k2, none⟩ = some (.int .u8 (x : Int)) := (hB1.cell (p := ⟨b, off + k2, none⟩) hbl).trans ((hc k2 hlt).trans (by rw [hx]))
      have htk : bysV (bs.take (k2 + 1)) = bysV (bs.take k2) ++ [.int .u8 (x : Int)] := by rw [List.take_succ_eq_append_getElem hlt, hx]; unfold bysV; rw [List.map_append]; rfl
      clear hx hc hvb hN hRH
      go_wp2_with (at_builtin; refine wpList_append_own _ rfl _ _ 34 rfl W.heap.size 5 i0 (.int .u8 0) 1 1 Tryz.underlying34 hi hz0 hz1 hz2 rfl (by decide) _ _ _ rfl (ho1.alloc _) ⟨wr.heap.size, 0, none⟩ 1 1 [.int .u8 (x : Int)] rfl rfl (one_at _ _ rfl _ _) (fun u hu => by rw [List.mem_singleton.1 hu]; rfl) (by unfold maxLen; omega) (by omega) (by have := hB1.size; simp; omega) ?_; intro v' w2 hown' hgrow _)
      go_roundw
      case rel => exact ⟨k2 + 1, by omega, by go_num, by rw [htk]; exact hown', (hB1.alloc hB1.size _).grown hgrow (by have := hB1.size; simp; omega) (fun j hj => (ho1.lt j hj).1)⟩
      case measure => simp [intOf]; omega
    · obtain rfl : k2 = bs.length := by omega
      rw [List.take_length] at ho1
      clear hN
      go_wp2
      go_loopw [5, 7] (fun v x wr => ∃ k : Nat, k ≤ 300 ∧ x = .int .i64 ((2 * k : Nat) : Int) ∧ wr.ownsRow W.heap.size 5 1 v (bs.length + 2 * k) (bysV bs ++ mksB (2 * k)) ∧ Below W.heap.size W wr) (fun _ x _ => (601 - intOf x).toNat)
      case atStart => exact ⟨0, by omega, rfl, by simpa [mksB] using ho1, hB1⟩
      case round =>
        obtain ⟨k3, hk3, rfl, ho, hB⟩ := hrel
        by_cases hk2 : k3 < 300
        · have hkk : ((2 * k3 : Nat) : Int) < 600 := by omega
          go_wp2_with (at_builtin; refine wpList_append_own _ rfl _ _ 34 rfl W.heap.size 5 i0 (.int .u8 0) 1 1 Tryz.underlying34 hi hz0 hz1 hz2 rfl (by decide) _ _ _ rfl (ho.alloc _) ⟨wr.heap.size, 0, none⟩ 2 2 [.int .u8 165, .int .u8 90] rfl rfl (cells2_atB _ _ rfl _ _ _) (fun u hu => by simp only [List.mem_cons, List.not_mem_nil, or_false] at hu; rcases hu with rfl | rfl <;> rfl) (by unfold maxLen; omega) (by omega) (by have := hB.size; simp; omega) ?_; intro v' w2 hown' hgrow _)
          go_roundw
          case rel =>
            refine ⟨k3 + 1, by omega, by go_num, ?_, (hB.alloc hB.size _).grown hgrow (by have := hB.size; simp; omega) (fun j hj => (ho.lt j hj).1)⟩
            rw [show 2 * (k3 + 1) = 2 * k3 + 2 by omega, mksB_two _ (by omega), ← List.append_assoc, ← Nat.add_assoc]
            exact hown'
          case measure => simp [intOf]; omega
        · obtain rfl : k3 = 300 := by omega
          obtain ⟨g, capN, rfl⟩ := own_someB ho (by omega)
          have hcN := own_capB ho
          have hRw : Hid (∀ Y, Below W.heap.size W Y → Y.cell? ⟨R, 0, none⟩ = some vb ∧ Y.frozen? ⟨R, 0, none⟩ = false) := hRH
          obtain ⟨q1, q2⟩ := hRw.out wr hB
          have hvr : wr.ownsRow lo 34 1 vb k xs := (GrS.of_below (S := fun _ => False) hB).own hvb (fun _ _ h => h)
          have hbb := hB.alloc hB.size (.cells #[.slice (some ⟨g, 0, none⟩) (bs.length + 2 * 300) capN] 34)
          have hvb2 := own_later hvr ((Below.refl wr.heap.size wr).alloc (Nat.le_refl _) (.cells #[.slice (some ⟨g, 0, none⟩) (bs.length + 2 * 300) capN] 34))
          obtain ⟨q3, q4⟩ := hRw.out _ hbb
          obtain ⟨Y, hY⟩ : ∃ Y, wr.alloc (.cells #[.slice (some ⟨g, 0, none⟩) (bs.length + 2 * 300) capN] 34) = Y := ⟨_, rfl⟩
          have hYs : wr.heap.size < Y.heap.size := by rw [← hY]; simp
          have hnew := one_at wr _ rfl (.slice (some ⟨g, 0, none⟩) (bs.length + 2 * 300) capN) 34
          have hoY := own_later ho ((Below.refl wr.heap.size wr).alloc (Nat.le_refl _) (.cells #[.slice (some ⟨g, 0, none⟩) (bs.length + 2 * 300) capN] 34))
          rw [hY] at hbb hvb2 q3 q4 hnew hoY
          have hloY : lo ≤ Y.heap.size := Nat.le_trans hlo hbb.size
          replace hbb := Hid.mk hbb
          replace hoY := Hid.mk hoY
          replace hY := Hid.mk hY
          clear hvr hvb hB ho1 hB1 hrow0
          go_wp2_with (at_builtin; rw [hY.out]; refine wpList_append_own_at (P := Tryz.prog) Y rfl _ _ 43 rfl lo 34 j0 (.slice none 0 0) 1 24 Tryz.underlying43 kj y0 y1 y2 rfl (by decide) vb k xs rfl hvb2 ⟨wr.heap.size, 0, none⟩ 1 1 [.slice (some ⟨g, 0, none⟩) (bs.length + 2 * 300) capN] rfl rfl hnew (fun u hu => by rw [List.mem_singleton.1 hu]; rfl) (by unfold maxLen; omega) (by omega) hloY (fun v' w2 hown' hgrow _ hat => ?_); obtain ⟨g2, cap2, rfl⟩ := own_someB hown' (by omega); have hbk := hgrow.block R (Nat.lt_of_lt_of_le hRlt hbb.out.size) (fun e => hne e.symm); have q5 := (World.cell?_of_block (a := ⟨R, 0, none⟩) hbk).trans q3; have q6 := (World.frozen?_of_block (a := ⟨R, 0, none⟩) hbk).trans q4)
          go_ret
          have hG : GrS (fun z => vb.ownBlock = some z) W w2 := (GrS.of_below hbb.out).trans (GrS.of_grown' hgrow (fun z e => e))
          have hgn : ∀ z, (Value.slice (some ⟨g, 0, none⟩) (bs.length + 2 * 300) capN).ownBlock = some z → ¬ vb.ownBlock = some z := fun z e e2 => by
            obtain ⟨-, cs1, t1⟩ := own_rowT hoY.out e
            obtain ⟨-, cs2, t2⟩ := own_rowT hvb2 e2
            rw [t1] at t2
            injection t2 with t2
            injection t2 with _ t2 _
            exact absurd t2 (by decide)
          have hog := (GrS.of_grown' (S := fun z => vb.ownBlock = some z) hgrow (fun z e => e)).own hoY.out hgn
          refine ⟨g, capN, _, w2, rfl, rfl, hG, hog, hown', hat.imp id (fun e => ⟨_, e, ?_⟩)⟩
          exact hbb.out.size
end Go.Proofs.YthbojlbgjmecoaaGreat.DJ

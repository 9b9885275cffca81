import Derived.Test.YthbojlbgjmecoaaGreatTurnRdL
import Derived.Test.YthbojlbgjmecoaaGreatJoin30
/- levyref19's disk: Files. -/
namespace Go.Proofs.YthbojlbgjmecoaaGreat.DJ
open Go.RowKit
set_option linter.constructorNameAsVariable false

set_option maxRecDepth 4000 in
set_option maxHeartbeats 4000000 in
theorem rfiles_any {T : Nat → Prop} {rb : Nat} {d : Dk} (w : World) (h : RdAt w T rb d) : Calls Tryz.prog 8 #[.pointer (some ⟨rb, 0, none⟩)] w fun e w' => ∃ a c, e = .returned (.slice a d.fs.length c) ∧ FfO w' w.heap.size (.slice a d.fs.length c) d.fs ∧ Below w.heap.size w w' := by
  have h40 := h.ok.len
  obtain ⟨v, hrow, hF⟩ := h.ex
  obtain ⟨va, vc, rfl, -, -⟩ := hF.sl
  obtain ⟨c0w, -, -, -, -, -⟩ := rd_cells hrow
  have hrb := h.lt
  have hI0 : Hid (∃ a c, (Value.slice none 0 0 = .slice a 0 c) ∧ FfO w w.heap.size (.slice a 0 c) []) := ⟨none, 0, rfl, FfO.nil _ _⟩
  clear hF
  go_enter Tryz.func8, Tryz.ntmps8
  go_wp2
  clear c0w
  go_loopw [4, 3] (fun v u wr => ∃ i : Nat, i ≤ d.fs.length ∧ v = .int .i64 (i : Int) ∧ (∃ a c, u = .slice a i c ∧ FfO wr w.heap.size (.slice a i c) (d.fs.take i)) ∧ Below w.heap.size w wr) (fun v _ _ => d.fs.length - (intOf v).toNat)
  case atStart => exact ⟨0, Nat.zero_le _, rfl, hI0.out, Below.refl _ _⟩
  case round =>
    clear hI0
    obtain ⟨i, hi, rfl, ⟨ua, uc, rfl, hFo⟩, hb⟩ := hrel
    have c0 : wr.cell? ⟨rb, 0, none⟩ = some (.slice va d.fs.length vc) := (hb.cell (p := ⟨rb, 0, none⟩) hrb).trans (rd_cells hrow).1
    by_cases hlt : i < d.fs.length
    · obtain ⟨f, g, n, c, p, pc, hI⟩ := h.it hlt
      have hlt' : (i : Int) < (d.fs.length : Int) := by omega
      have hi0 : (0 : Int) ≤ (i : Int) := by omega
      have hrw := hI.row
      rw [hrow] at hrw
      have hva : va = some ⟨g, 0, none⟩ ∧ vc = c := by
        injection hrw with hrw
        injection hrw with hrw
        have := congrArg (fun a : Array Value => a[0]?) hrw
        simp at this
        exact ⟨this.1, this.2.2⟩
      obtain ⟨rfl, rfl⟩ := hva
      have hgl : g < w.heap.size := World.block_lt_of_cell? _ _ hI.dat
      have i0 := (hb.cell (p := ⟨g, i * 3, none⟩) hgl).trans hI.nm
      have i1 := (hb.cell (p := ⟨g, i * 3 + 1, none⟩) hgl).trans hI.dat
      have i2 := (hb.cell (p := ⟨g, i * 3 + 2, none⟩) hgl).trans hI.sur
      have hpc := (own_pos (hI.own.mono (Nat.zero_le 0))).1
      have hsiz := h.ok.siz _ (List.getElem_mem hlt)
      have hS : d.fs.take (i + 1) = d.fs.take i ++ [f] := by rw [List.take_succ_eq_append_getElem hlt, hI.hf]
      rw [hI.hf] at hsiz
      have hbyt := hI.byt
      have hby := (byts_of_own (n := f.dat.length) hI.byt hI.own).later hb
      have htl : (d.fs.take i).length = i := by rw [List.length_take]; omega
      obtain ⟨sn, hsn⟩ : ∃ sn, strB f.nm = sn := ⟨_, rfl⟩
      rw [hsn] at i0
      obtain ⟨X, hXe⟩ : ∃ X, wr.alloc (.cells #[.string sn, .slice p f.dat.length pc, .int .i64 (f.sure : Int)] 74) = X := ⟨_, rfl⟩
      have hb0 : Below wr.heap.size wr X := by rw [← hXe]; exact (Below.refl _ _).alloc (Nat.le_refl _) _
      obtain ⟨fb, hfb⟩ : ∃ fb, wr.heap.size = fb := ⟨_, rfl⟩
      have hXl : fb < X.heap.size := by rw [← hXe, ← hfb]; simp
      have hXr : X.heap[fb]? = some (.cells #[.string sn, .slice p f.dat.length pc, .int .i64 (f.sure : Int)] 74 (0, 0)) := by rw [← hXe, ← hfb]; exact heap_alloc_new _ _
      have hcX := copied_any p pc hpc f.dat (by omega) X (hby.later hb0)
      have e1 := cell_of_row _ _ 1 _ _ _ hXr
      have hA : Hid (∀ p3 c3 w3, w3.ownsRow X.heap.size 5 1 (.slice p3 f.dat.length c3) f.dat.length (bysV f.dat) → Below X.heap.size X w3 → w3.cell? ⟨fb, 1, none⟩ = some (.slice p f.dat.length pc) ∧ (∀ j, w3.frozen? ⟨fb, j, none⟩ = false) ∧ (w3.setCell ⟨fb, 1, none⟩ (.slice p3 f.dat.length c3)).cell? ⟨fb, 0, none⟩ = some (.string sn) ∧ (w3.setCell ⟨fb, 1, none⟩ (.slice p3 f.dat.length c3)).cell? ⟨fb, 1, none⟩ = some (.slice p3 f.dat.length c3) ∧ (w3.setCell ⟨fb, 1, none⟩ (.slice p3 f.dat.length c3)).cell? ⟨fb, 2, none⟩ = some (.int .i64 (f.sure : Int)) ∧ Below wr.heap.size wr (w3.setCell ⟨fb, 1, none⟩ (.slice p3 f.dat.length c3)) ∧ (w3.setCell ⟨fb, 1, none⟩ (.slice p3 f.dat.length c3)).ownsRow X.heap.size 5 1 (.slice p3 f.dat.length c3) f.dat.length (bysV f.dat)) := ⟨fun p3 c3 w3 ho3 hb3 => by
        have hr := (hb3.block fb hXl).trans hXr
        have hr2 := heap_setCell_same w3 fb 1 _ _ (.slice p3 f.dat.length c3) hr
        refine ⟨cell_of_row _ _ 1 _ _ _ hr, fun j => frozen_of_row _ _ j _ _ hr, cell_of_row _ _ 0 _ _ _ hr2, cell_of_row _ _ 1 _ _ _ hr2, cell_of_row _ _ 2 _ _ _ hr2, (hb0.trans (hb3.mono hb0.size)).setCell (p := ⟨fb, 1, none⟩) (by show wr.heap.size ≤ fb; omega) _, (grS_set w3 fb 1 _).own ho3 (fun z hz e => ?_)⟩
        have := (ho3.lt z hz).1
        omega⟩
      have hbase : w.heap.size ≤ wr.heap.size := hb.size
      replace hFo := Hid.mk hFo
      replace hb := Hid.mk hb
      replace hbyt := Hid.mk hbyt
      replace hS := Hid.mk hS
      replace hsn := Hid.mk hsn
      replace hb0 := Hid.mk hb0
      replace htl := Hid.mk htl
      clear hI hby hrow hrw h
      go_wp2_with (first | (go_at_call 36; refine hcX.mono ?_; rintro e w3 ⟨p3, c3, rfl, ho3, hb3⟩; obtain ⟨y0, y1, y2, y3, y4, y5, y6⟩ := hA.out p3 c3 w3 ho3 hb3; have y1' := y1 1; obtain ⟨W4, hW4⟩ : ∃ W4, w3.setCell ⟨fb, 1, none⟩ (.slice p3 f.dat.length c3) = W4 := ⟨_, rfl⟩; rw [hW4] at y2 y3 y4 y5 y6; have hB5 : Below W4.heap.size W4 (W4.alloc (.cells #[.string sn, .slice p3 f.dat.length c3, .int .i64 (f.sure : Int)] 74)) := (Below.refl _ _).alloc (Nat.le_refl _) _; have hlit := lit_at W4 [.string sn, .slice p3 f.dat.length c3, .int .i64 (f.sure : Int)] 74; obtain ⟨L, hLm, hoL, hbL⟩ := (hFo.out.later y5).later hB5; rw [htl.out] at hoL; have hB5S := Nat.le_trans hbase (Nat.le_trans y5.size hB5.size); replace y6 := Hid.mk (own_later y6 hB5); replace y5 := Hid.mk y5; replace hbL := Hid.mk hbL; replace hLm := Hid.mk hLm) | (at_builtin; refine wpList_appF _ rfl _ _ rfl w.heap.size hB5S (.slice ua i uc) i (ffV L) rfl hoL (some ⟨W4.heap.size, 0, none⟩) 1 1 rfl (fun e => by cases e) [.string sn, .slice p3 f.dat.length c3, .int .i64 (f.sure : Int)] rfl (fun q hq j u hj => by cases hq; exact hlit j u hj) (fun u hu => by simp only [List.mem_cons, List.not_mem_nil, or_false] at hu; rcases hu with rfl | rfl | rfl <;> rfl) (by omega) ?_; intro v9 w9 ho9 hg9 ha9))
      have hl9 : L.length = i := by rw [← htl.out, ← hLm.out, List.length_map]
      have hrc9 := ff_snoc (r := f) (by rw [hl9]; exact hoL) hbL.out (FfB.mk (x := (f, .slice p3 f.dat.length c3)) hbyt.out (y6.out.mono (Nat.le_trans hbase hb0.out.size))) hg9 (by rw [hl9, hsn.out]; exact ho9)
      rw [hLm.out, ← hS.out] at hrc9
      obtain ⟨a9, c9, rfl⟩ := own_lenB ho9
      have b9 : Below w.heap.size w w9 := (below_step (below_step hb.out y5.out) hB5).trans ((GrS.of_grown' (S := fun k => (Value.slice ua i uc).ownBlock = some k) hg9 (fun k e => e)).below hB5S (fun k e => (own_rowT hoL e).1))
      exact ⟨⟨i + 1, hlt, rfl, ⟨a9, c9, rfl, hrc9⟩, b9⟩, by simp only [intOf]; omega⟩
    · have hlt' : ¬ (i : Int) < (d.fs.length : Int) := by omega
      obtain rfl : i = d.fs.length := by omega
      rw [List.take_length] at hFo
      replace hFo := Hid.mk hFo
      clear hrow h
      go_wp2
      go_ret
      exact ⟨ua, uc, rfl, hFo.out, hb⟩
end Go.Proofs.YthbojlbgjmecoaaGreat.DJ


/- Files that came in: any at all; what NewDisk makes of them. -/
namespace Go.Proofs.YthbojlbgjmecoaaGreat.DJ
open Go.RowKit
set_option linter.constructorNameAsVariable false

/-- A file as it came in. -/
structure Fi where
  nm : List Nat
  dat : List Nat
  syn : Int
def Fi.fl (f : Fi) : Fl := ⟨f.nm, f.dat, f.syn.toNat⟩
abbrev Fi.fit (f : Fi) : Prop := named f.nm ∧ f.dat.length ≤ 2097152 ∧ 0 ≤ f.syn ∧ f.syn ≤ (f.dat.length : Int)
def mkD : List Fl → List Fi → Option (List Fl)
  | fs, [] => some fs
  | fs, f :: l => if (get fs f.nm).isSome = true ∨ ¬ f.fit then none else mkD (ins fs f.fl) l
/-- What NewDisk makes of them: the files, or none. -/
def newD (L : List Fi) : Option (List Fl) := if 40 < L.length then none else mkD [] L
theorem mkD_bad {fs : List Fl} {L : List Fi} {i : Nat} (h : i < L.length) (hb : (get fs L[i].nm).isSome = true ∨ ¬ L[i].fit) : mkD fs (L.drop i) = none := by
  rw [List.drop_eq_getElem_cons h, mkD, if_pos hb]
theorem mkD_good {fs : List Fl} {L : List Fi} {i : Nat} (h : i < L.length) (hg : get fs L[i].nm = none) (hf : L[i].fit) : mkD fs (L.drop i) = mkD (ins fs L[i].fl) (L.drop (i + 1)) := by
  rw [List.drop_eq_getElem_cons h, mkD, if_neg (by rw [hg]; simp; exact hf)]
theorem mkD_end {fs : List Fl} {L : List Fi} : mkD fs (L.drop L.length) = some fs := by rw [List.drop_length]; rfl
/-- What is asked of a file that came in: its lengths. -/
structure FiB (B : Nat) (f : Fi) : Prop where
  nl : f.nm.length ≤ B
  nb : ∀ x ∈ f.nm, x < 256
  dl : f.dat.length ≤ B
  lo : -9223372036854775808 ≤ f.syn
  hi : f.syn ≤ 9223372036854775807
/-- A list of files that came in. -/
def FiAt (w : World) (a : Option Addr) (L : List Fi) : Prop := L = [] ∨ ∃ b off, a = some ⟨b, off, none⟩ ∧ b < w.heap.size ∧ ∀ i (h : i < L.length), w.cell? ⟨b, off + i * 3, none⟩ = some (.string (strB L[i].nm)) ∧ (∃ p c, w.cell? ⟨b, off + i * 3 + 1, none⟩ = some (.slice p L[i].dat.length c) ∧ (p = none → c = 0) ∧ L[i].dat.length ≤ c ∧ Byts w p L[i].dat) ∧ w.cell? ⟨b, off + i * 3 + 2, none⟩ = some (.int .i64 L[i].syn)
theorem FiAt.grS {S : Nat → Prop} {w w' : World} {a : Option Addr} {L : List Fi} (h : FiAt w a L) (hg : GrS S w w') (hS : ∀ k, k < w.heap.size → ¬ S k) : FiAt w' a L := by
  rcases h with h | ⟨b, off, ha, hlt, hc⟩
  · exact .inl h
  · refine .inr ⟨b, off, ha, Nat.lt_of_lt_of_le hlt hg.size, fun i hi => ?_⟩
    obtain ⟨h1, ⟨p, c, h2, h3, h4, h5⟩, h6⟩ := hc i hi
    refine ⟨(hg.cell hlt (hS _ hlt)).trans h1, ⟨p, c, (hg.cell hlt (hS _ hlt)).trans h2, h3, h4, ?_⟩, (hg.cell hlt (hS _ hlt)).trans h6⟩
    obtain ⟨q0, h0 | ⟨b2, o2, e2, hl2, hc2⟩⟩ := h5
    · exact ⟨q0, .inl h0⟩
    · exact ⟨q0, .inr ⟨b2, o2, e2, Nat.lt_of_lt_of_le hl2 hg.size, fun j hj => (hg.cell hl2 (hS _ hl2)).trans (hc2 j hj)⟩⟩
theorem FiAt.later {w w' : World} {a : Option Addr} {L : List Fi} (h : FiAt w a L) (hb : Below w.heap.size w w') : FiAt w' a L := h.grS (S := fun _ => False) (.of_below hb) (fun _ _ h => h)
/-- The document's disk, new. -/
theorem RdAt.new (w : World) : RdAt (w.alloc (.cells #[.slice none 0 0, .bool false, .int .i64 (-1), .int .i64 0, .int .i64 0] 102)) (fun k => k = w.heap.size) w.heap.size ⟨[], false, none, 0, 0⟩ :=
  ⟨ok0, rigs0, ⟨.slice none 0 0, heap_alloc_new _ _, FfT.nil _ _⟩, rfl, fun k hk => by rw [hk]; simp⟩
end Go.Proofs.YthbojlbgjmecoaaGreat.DJ

import Derived.Test.YtakcdgeanbpllaaGreatDoorDmQ
import Derived.Test.YtakcdgeanbpllaaGreatDoorDmN
import Derived.Test.YtakcdgeanbpllaaGreatDoorJoin47
import Derived.Test.YtakcdgeanbpllaaGreatDoorDrC
import Derived.Test.YtakcdgeanbpllaaGreatDoorJoin48
import Derived.Test.YtakcdgeanbpllaaGreatDoorJoin49
import Derived.Maps.AppendAt
/- Files in memory; NewDisk of files that may be. -/
namespace Go.Proofs.YtakcdgeanbpllaaGreatDoor.DJ
open Go.RowKit

/-- A list of files. -/
def FfAt (w : World) (a : Option Addr) (L : List Fl) : Prop := L = [] ∨ ∃ b off, a = some ⟨b, off, none⟩ ∧ b < w.heap.size ∧ ∀ i (h : i < L.length), w.cell? ⟨b, off + i * 3, none⟩ = some (.string (strB L[i].nm)) ∧ (∃ p c, w.cell? ⟨b, off + i * 3 + 1, none⟩ = some (.slice p L[i].dat.length c) ∧ (p = none → c = 0) ∧ L[i].dat.length ≤ c ∧ Byts w p L[i].dat) ∧ w.cell? ⟨b, off + i * 3 + 2, none⟩ = some (.int .i64 (L[i].sure : Int))
theorem FfAt.later {w w' : World} {a : Option Addr} {L : List Fl} (h : FfAt w a L) (hb : Below w.heap.size w w') : FfAt w' a L := by
  rcases h with h | ⟨b, off, ha, hlt, hc⟩
  · exact .inl h
  · refine .inr ⟨b, off, ha, Nat.lt_of_lt_of_le hlt hb.size, fun i hi => ?_⟩
    obtain ⟨h1, ⟨p, c, h2, h3, h4, h5⟩, h6⟩ := hc i hi
    exact ⟨(hb.cell (p := ⟨b, off + i * 3, none⟩) hlt).trans h1, ⟨p, c, (hb.cell (p := ⟨b, off + i * 3 + 1, none⟩) hlt).trans h2, h3, h4, h5.later hb⟩, (hb.cell (p := ⟨b, off + i * 3 + 2, none⟩) hlt).trans h6⟩

/-- Files that may be. -/
structure Fit (f : Fl) : Prop where
  nm : named f.nm
  siz : f.dat.length ≤ 2097152
  sur : f.sure ≤ f.dat.length
  byt : ∀ x ∈ f.dat, x < 256
set_option maxRecDepth 4000 in
set_option maxHeartbeats 1000000 in
theorem mayBe_any {f : Fl} (hf : Fit f) (p : Option Addr) (c : Nat) (w : World) :
    Calls Tryz.prog 52 #[.agg #[.string (strB f.nm), .slice p f.dat.length c, .int .i64 (f.sure : Int)]] w fun e w' => e = .returned (.bool true) ∧ Below w.heap.size w w' := by
  have h1 : (f.dat.length : Int) ≤ 2097152 := by have := hf.siz; omega
  have h2 : (0 : Int) ≤ (f.sure : Int) := by omega
  have h3 : (f.sure : Int) ≤ (f.dat.length : Int) := by have := hf.sur; omega
  have hN := fun X => isName_any (strB f.nm) X
  rw [bs_strB (named_lt hf.nm), decide_eq_true hf.nm] at hN
  have B := (Below.refl w.heap.size w).alloc (Nat.le_refl _) (.cells #[.string (strB f.nm), .slice p f.dat.length c, .int .i64 (f.sure : Int)] 45)
  generalize strB f.nm = s at *
  go_enter Tryz.func52, Tryz.ntmps52
  go_wp2_with (go_at_call 111; refine (hN _).mono ?_; rintro e w1 ⟨rfl, rfl⟩)
  go_ret
  exact ⟨rfl, B⟩

/-- A file with its bytes comes into the disk's map. -/
theorem add_file {w X : World} {lo db : Nat} {S : Nat → Prop} {d : Dk} {mb : Nat} {D : DataW Nat} {fb : List Nat → Nat} {vv : List Nat → Value} (h : Lay w lo S db d mb D fb vv) (hlo : lo ≤ w.heap.size) (hB : Below w.heap.size w X) {xb : Nat} (hxb : w.heap.size ≤ xb) {x : Fl} {v : Value} (hF : FileAt X lo xb v x) (hv : ∀ k, v.ownBlock = some k → w.heap.size ≤ k) (hg : get d.fs x.nm = none) (hf : Fit x) (hl : d.fs.length < 40) :
    ∃ w9, (Instr.mapUpdate 72 (.map (some mb)) (.string (strB x.nm)) (.pointer (some ⟨xb, 0, none⟩))).run Tryz.prog X = .ok () w9 ∧ (∃ S1, DiskAt w9 lo S1 db { d with fs := ins d.fs x } ∧ Dv S w S1 w9) ∧ GrS (fun k => k = mb) X w9 := by
  have hX := h.grS (T := fun _ => False) (.of_below hB) (fun _ _ h => h)
  obtain ⟨w9, hrun, hown, hturn⟩ := hX.map.store bkey bmapT (Nat.lt_of_lt_of_le hl (by decide)) (bkeyOf (strB_len (Nat.le_trans hf.nm.2.2 (by decide)))) (show bR (.pointer (some ⟨xb, 0, none⟩)) = some (.held xb, []) from rfl)
  have hG9 : GrS (fun k => k = mb) X w9 := .of_grown hturn.grown rfl
  have hG : GrS (fun k => k = mb) w w9 := (GrS.of_below hB).trans hG9
  have hmb := h.hi _ h.Smb
  have hF9 : FileAt w9 lo xb v x := hF.grS hG9 (by omega) (fun g hg' e => by have := hv g hg'; omega)
  obtain ⟨S1, hL, hv1⟩ := h.add (x := x) (d' := { d with fs := ins d.fs x }) hg hf.nm hf.siz hf.sur hf.byt hl hG hxb hv hF9 hlo hown rfl rfl rfl rfl rfl
  exact ⟨w9, hrun, ⟨S1, ⟨_, _, _, _, hL⟩, hv1⟩, hG9⟩

theorem add_clone {w w4 w5 : World} {lo db : Nat} {S : Nat → Prop} {d : Dk} {mb : Nat} {D : DataW Nat} {fb : List Nat → Nat} {vv : List Nat → Value} (h : Lay w lo S db d mb D fb vv) (hlo : lo ≤ w.heap.size) (B4 : Below w.heap.size w w4) {x : Fl} {p5 : Option Addr} {n c5 : Nat} (hn : n = x.dat.length) (ho : w5.ownsRow w4.heap.size 5 1 (.slice p5 n c5) n (bysV x.dat)) (hb5 : Below w4.heap.size w4 w5) (hg : get d.fs x.nm = none) (hf : Fit x) (hl : d.fs.length < 40) :
    ∃ w9, (Instr.mapUpdate 72 (.map (some mb)) (.string (strB x.nm)) (.pointer (some ⟨w5.heap.size, 0, none⟩))).run Tryz.prog (w5.alloc (.cells #[.slice p5 n c5, .int .i64 (x.sure : Int)] 89)) = .ok () w9 ∧ (∃ S1, DiskAt w9 lo S1 db { d with fs := ins d.fs x }) ∧ Below lo w w9 ∧ ∀ b o v, (w5.alloc (.cells #[.slice p5 n c5, .int .i64 (x.sure : Int)] 89)).cell? ⟨b, o, none⟩ = some v → b ≠ mb → w9.cell? ⟨b, o, none⟩ = some v := by
  subst hn
  have B5 := B4.trans (hb5.mono B4.size)
  have BA := (Below.refl w5.heap.size w5).alloc (Nat.le_refl _) (.cells #[.slice p5 x.dat.length c5, .int .i64 (x.sure : Int)] 89)
  have hF : FileAt (w5.alloc (.cells #[.slice p5 x.dat.length c5, .int .i64 (x.sure : Int)] 89)) lo w5.heap.size (.slice p5 x.dat.length c5) x := ⟨heap_new w5 _, (own_later ho BA).mono (Nat.le_trans hlo B4.size)⟩
  obtain ⟨w9, q1, ⟨S1, q2, q3⟩, q4⟩ := add_file h hlo (below_step B5 BA) B5.size hF (fun k hk => Nat.le_trans B4.size (own_rowT ho hk).1) hg hf hl
  exact ⟨w9, q1, ⟨S1, q2⟩, q3.below' hlo (fun k hk => ⟨h.low k hk, h.hi k hk⟩), fun b o v hc hne => (q4.cell (World.block_lt_of_cell? _ _ hc) hne).trans hc⟩

def insAll (L : List Fl) : List Fl := L.foldl ins []
theorem insAll_snoc (L : List Fl) (x : Fl) : insAll (L ++ [x]) = ins (insAll L) x := by unfold insAll; rw [List.foldl_append]; rfl
theorem insF_mem (L : List Fl) : ∀ (A : List Fl) (f : Fl), f ∈ L.foldl ins A ↔ f ∈ L ∨ f ∈ A := by
  induction L with
  | nil => intro A f; simp
  | cons x L ih =>
    intro A f
    rw [List.foldl_cons, ih, mem_ins, List.mem_cons]
    constructor
    · rintro (h | h | h)
      · exact .inl (.inr h)
      · exact .inl (.inl h)
      · exact .inr h
    · rintro ((h | h) | h)
      · exact .inr (.inl h)
      · exact .inl h
      · exact .inr (.inr h)
theorem insF_len (L : List Fl) : ∀ A : List Fl, (L.foldl ins A).length = L.length + A.length := by
  induction L with
  | nil => intro A; simp
  | cons x L ih =>
    intro A
    rw [List.foldl_cons, ih, ins_len, List.length_cons]
    omega
theorem insAll_mem (L : List Fl) (f : Fl) : f ∈ insAll L ↔ f ∈ L := by
  unfold insAll
  rw [insF_mem]
  simp
theorem insAll_len (L : List Fl) : (insAll L).length = L.length := by
  unfold insAll
  rw [insF_len]
  simp

set_option maxRecDepth 8000 in
set_option maxHeartbeats 400000 in
theorem newDisk_ok (L : List Fl) (hf : ∀ f ∈ L, Fit f) (hd : ∀ i j (hi : i < L.length) (hj : j < L.length), i ≠ j → L[i].nm ≠ L[j].nm) (h40 : L.length ≤ 40) (a : Option Addr) (cap : Nat) (w : World) (hA : FfAt w a L) :
    Calls Tryz.prog 26 #[.slice a L.length cap] w fun e w' => ∃ S db, e = .returned (.tuple #[.pointer (some ⟨db, 0, none⟩), .int .i64 0]) ∧ DiskAt w' w.heap.size S db ⟨insAll L, false, none, 0, 0⟩ ∧ Below w.heap.size w w' := by
  have hmm := @run_makeMap Tryz.prog
  have ho := World.ownsMap_made w Tryz.prog 9 bR
  obtain ⟨W1, hW1⟩ : ∃ W1, w.alloc (.map #[] 0) = W1 := ⟨_, rfl⟩
  obtain ⟨W2, hW2⟩ : ∃ W2, W1.alloc (.cells #[.map (some w.heap.size), .bool false, .int .i64 0, .int .i64 0, .int .i64 0, .bool false] 76) = W2 := ⟨_, rfl⟩
  have e1 : W1.heap.size = w.heap.size + 1 := by rw [← hW1]; simp
  have e2 : W2.heap.size = w.heap.size + 2 := by rw [← hW2]; simp [e1]
  have hb1 : Below w.heap.size w W1 := by rw [← hW1]; exact (Below.refl _ _).alloc (Nat.le_refl _) _
  have hb2 : Below W1.heap.size W1 W2 := by rw [← hW2]; exact (Below.refl _ _).alloc (Nat.le_refl _) _
  have hr : W2.heap[w.heap.size + 1]? = some (dkRow w.heap.size dk0) := by
    rw [← hW2, ← e1]
    exact heap_new W1 _
  rw [hW1] at ho
  have hL : Lay W2 w.heap.size (fun k => k = w.heap.size ∨ k = w.heap.size + 1) (w.heap.size + 1) dk0 w.heap.size (.map []) (fun _ => 0) (fun _ => .pointer none) :=
    ⟨ok0, rigs0, hr, ownsMap_grS (S := fun _ => False) ho (.of_below hb2) (fun h => h), Ties.none _, fun f hf => by simp [dk0] at hf, .inr rfl, .inl rfl, fun f hf => by simp [dk0] at hf, fun f hf => by simp [dk0] at hf, fun k hk => by omega, fun k hk => by omega, fun f hf => by simp [dk0] at hf, fun f hf => by simp [dk0] at hf⟩
  rw [← e1] at hL
  have hD : Hid (∃ S, DiskAt W2 w.heap.size S W1.heap.size dk0) := ⟨_, _, _, _, _, hL⟩
  have hB : Hid (Below w.heap.size w W2) := ⟨below_step hb1 hb2⟩
  have h40' : ¬ (40 : Int) < (L.length : Int) := by omega
  clear hL hr hb1 hb2 ho e1 e2
  go_enter Tryz.func26, Tryz.ntmps26
  go_wp2
  go_loopw [15] (fun v wr => ∃ i : Nat, i ≤ L.length ∧ v = .int .i64 (i : Int) ∧ (∃ S, DiskAt wr w.heap.size S W1.heap.size ⟨insAll (L.take i), false, none, 0, 0⟩) ∧ Below w.heap.size w wr) (fun v _ => L.length - (intOf v).toNat)
  case atStart => exact ⟨0, Nat.zero_le _, rfl, hD.out, hB.out⟩
  case round =>
    clear hD hB hmm hW1 hW2
    obtain ⟨i, hi, rfl, ⟨S, hD⟩, hb⟩ := hrel
    by_cases hlt : i < L.length
    · have hlt' : (i : Int) < (L.length : Int) := by omega
      have hi0 : (0 : Int) ≤ (i : Int) := by omega
      have hS : L.take (i + 1) = L.take i ++ [L[i]] := List.take_succ_eq_append_getElem hlt
      have hfit := hf L[i] (List.getElem_mem hlt)
      have hnew : get (insAll (L.take i)) L[i].nm = none := get_none.2 fun f hfm e => by
        rw [insAll_mem] at hfm
        obtain ⟨j, hj, rfl⟩ := List.getElem_of_mem hfm
        rw [List.length_take] at hj
        rw [List.getElem_take] at e
        exact hd j i (by omega) hlt (by omega) e
      have hlen : (insAll (L.take i)).length < 40 := by rw [insAll_len, List.length_take]; omega
      obtain ⟨b, off, rfl, hbl, hc⟩ := (hA.later hb).resolve_left (fun e => by rw [e] at hlt; simp at hlt)
      obtain ⟨q0, ⟨p, c, q1, hpc, hlc, hby⟩, q2⟩ := hc i hlt
      have hins : insAll (L.take (i + 1)) = ins (insAll (L.take i)) L[i] := by rw [hS, insAll_snoc]
      have hnext : Hid (∀ X, (∃ S1, DiskAt X w.heap.size S1 W1.heap.size ⟨ins (insAll (L.take i)) L[i], false, none, 0, 0⟩) → ∃ S1, DiskAt X w.heap.size S1 W1.heap.size ⟨insAll (L.take (i + 1)), false, none, 0, 0⟩) := ⟨fun X hX => by rw [hins]; exact hX⟩
      clear hc hS hins hd
      generalize L[i] = f at *
      generalize insAll (L.take i) = fs at *
      have hh := fun X (hX : Below wr.heap.size wr X) => has_any (nm := f.nm) (Nat.le_trans hfit.nm.2.2 (by decide)) (named_lt hfit.nm) X (hD.later hX)
      simp only [hnew, Option.isSome_none] at hh
      have hmb := fun X => mayBe_any hfit p c X
      obtain ⟨w1, hw1⟩ : ∃ w1, wr.alloc (.cells #[.string (strB f.nm), .slice p f.dat.length c, .int .i64 (f.sure : Int)] 45) = w1 := ⟨_, rfl⟩
      have B1 : Below wr.heap.size wr w1 := by rw [← hw1]; exact (Below.refl _ _).alloc (Nat.le_refl _) _
      have r1 : w1.heap[wr.heap.size]? = some (.cells #[.string (strB f.nm), .slice p f.dat.length c, .int .i64 (f.sure : Int)] 45 (0, 0)) := by rw [← hw1]; exact heap_new wr _
      have x0 := cell_of_row _ _ 0 _ _ _ r1
      have x1 := cell_of_row _ _ 1 _ _ _ r1
      have x2 := cell_of_row _ _ 2 _ _ _ r1
      simp only [List.getElem?_toArray, List.getElem?_cons_zero, List.getElem?_cons_succ] at x0 x1 x2
      replace hD := Hid.mk hD
      replace hb := Hid.mk hb
      replace hby := Hid.mk hby
      replace hfit := Hid.mk hfit
      replace hh := Hid.mk hh
      replace hmb := Hid.mk hmb
      replace hA := Hid.mk hA
      replace hnew := Hid.mk hnew
      clear hf
      obtain ⟨mb, D, fb, vv, hL⟩ := hD.out
      have hlo : w.heap.size ≤ wr.heap.size := hb.out.size
      obtain ⟨c0, -⟩ := hL.cells
      have hdl := hL.hi _ hL.Sdb
      have hne1 : W1.heap.size ≠ mb := fun e => map_ne_row hL.map hL.row e
      have hne2 : wr.heap.size ≠ mb := by have := hL.hi _ hL.Smb; omega
      have hcl := Hid.mk (fun w4 w5 p5 c5 B4 ho hb5 => add_clone (w4 := w4) (w5 := w5) (p5 := p5) (n := f.dat.length) (c5 := c5) hL hlo B4 rfl ho hb5 hnew.out hfit.out hlen)
      have hK := Hid.mk (fun X (hX : Below w1.heap.size w1 X) => (show _ ∧ _ ∧ _ ∧ _ from ⟨((below_step B1 hX).cell (p := ⟨W1.heap.size, 0, none⟩) hdl).trans c0, (hX.cell (p := ⟨wr.heap.size, 0, none⟩) (World.block_lt_of_cell? _ _ x0)).trans x0, (hX.cell (p := ⟨wr.heap.size, 1, none⟩) (World.block_lt_of_cell? _ _ x1)).trans x1, (hX.cell (p := ⟨wr.heap.size, 2, none⟩) (World.block_lt_of_cell? _ _ x2)).trans x2⟩))
      have hsc := fun X => sclone (strB f.nm) (by rw [strB_size]; exact Nat.le_trans hfit.out.nm.2.2 (by decide)) X
      have hbc := Hid.mk (fun X (hX : Below wr.heap.size wr X) => bclone_any p c hpc f.dat (Nat.le_trans hfit.out.siz (by decide)) X (hby.out.later hX))
      clear hL c0 hlo hdl
      go_upto_region 9 with (first | (go_at_call 51; refine (hh.out w1 B1).mono ?_; rintro e w2 ⟨rfl, hw2⟩; subst w2) | (go_at_call 52; refine (hmb.out _).mono ?_; rintro e w3 ⟨rfl, hb3⟩))
      have hb3' := below_step hb3 ((Below.refl _ _).drew)
      have S3 := hK.out _ hb3
      have S3' := hK.out _ hb3'
      clear hw1 r1 x0 x1 x2 hh hmb
      go_region_held3 (fun X => X.cell? ⟨W1.heap.size, 0, none⟩ = some (.map (some mb)) ∧ X.cell? ⟨wr.heap.size, 0, none⟩ = some (.string (strB f.nm)) ∧ X.cell? ⟨wr.heap.size, 1, none⟩ = some (.slice p f.dat.length c) ∧ X.cell? ⟨wr.heap.size, 2, none⟩ = some (.int .i64 (f.sure : Int))) (with_reducible assumption) (first | (go_at_call 53; refine (hsc _).mono ?_; rintro e w4 ⟨rfl, hb4⟩; have b4 := below_step hb3' hb4; have S4 := hK.out _ b4; have B4 := below_step B1 b4) | (go_at_call 35; refine (hbc.out _ B4).mono ?_; rintro e w5 ⟨p5, c5, rfl, ho5, hb5⟩; have b5 := below_step b4 hb5; have S5 := hK.out _ b5; have S6 := hK.out _ (below_step b5 ((Below.refl _ _).alloc (Nat.le_refl _) (.cells #[.slice p5 f.dat.length c5, .int .i64 (f.sure : Int)] 89))); obtain ⟨w9, hrun, hD9, hB9, G9⟩ := hcl.out w4 w5 p5 c5 B4 ho5 hb5; have S9 := And.intro (G9 _ _ _ S6.1 hne1) (And.intro (G9 _ _ _ S6.2.1 hne2) (And.intro (G9 _ _ _ S6.2.2.1 hne2) (G9 _ _ _ S6.2.2.2 hne2)))))
      replace hD9 := Hid.mk (hnext.out _ hD9)
      replace hB9 := Hid.mk (hb.out.trans hB9)
      clear S3 S3' S4 S5 S6 S9 G9 hrun ho5 hcl hK hnext
      go_wp2
      go_roundw
      case rel => exact ⟨i + 1, by omega, by first | rfl | go_num, hD9.out, hB9.out⟩
      case measure => simp [intOf]; omega
    · have hlt' : ¬ (i : Int) < (L.length : Int) := by omega
      obtain rfl : i = L.length := by omega
      rw [List.take_length] at hD
      replace hD := Hid.mk hD
      replace hb := Hid.mk hb
      go_wp2
      go_ret2
      exact ⟨S, _, rfl, hD.out, hb.out⟩
end Go.Proofs.YtakcdgeanbpllaaGreatDoor.DJ


/- world.stands. -/
namespace Go.Proofs.YtakcdgeanbpllaaGreatDoor.DJ
open Go.RowKit
set_option linter.constructorNameAsVariable false

theorem size_rec (X : World) : (sizeOf (Tryz.prog.elem 29)).run Tryz.prog X = .ok 2 X := by kernel_rfl
theorem under_rec : Tryz.prog.underlying 29 = some (.slice (Tryz.prog.elem 29)) := by kernel_rfl
theorem slice_rec (a : Option Addr) (n cap k : Nat) (ha : ∀ p, a = some p → ∃ b off, p = ⟨b, off, none⟩) (hk : k ≤ cap) : ∀ X, (Instr.slice 29 (.slice a n cap) none (some (.int .i64 (k : Int))) none).run Tryz.prog X = .ok (.slice a k cap) X := fun X => by
  rw [run_slice_h _ _ _ _ _ under_rec .i64 (k : Int) (by omega) (by omega), size_rec, Result.andThen_ok, sliced, Int.toNat_natCast]
  congr 2
  split
  · rfl
  · cases a with
    | none => rfl
    | some p =>
      obtain ⟨b, off, rfl⟩ := ha p rfl
      simp [Go.WideShapes.add_plain]
theorem rcAt_take {w : World} {a : Option Addr} {R : List Rec} (h : RcAt w a R) (n : Nat) : RcAt w a (R.take n) := by
  obtain ⟨h0, h⟩ := h
  refine ⟨fun r hr => h0 r (List.mem_of_mem_take hr), ?_⟩
  rcases h with rfl | ⟨b, off, ha, hlt, hc⟩
  · exact .inl (by simp)
  · refine .inr ⟨b, off, ha, hlt, fun i hi => ?_⟩
    rw [List.length_take] at hi
    have := hc i (by omega)
    simp only [List.getElem_take]
    exact this

/-- One file. -/
def one (dat : List Nat) : Dk := ⟨[⟨Nm 1, dat, dat.length⟩], false, none, 0, 0⟩
theorem calm_one (dat : List Nat) : Calm (one dat) := ⟨rfl, rfl, rfl⟩

set_option maxRecDepth 8000 in
set_option maxHeartbeats 1000000 in
theorem stands_any {lo ub db sum : Nat} {wp : Option Addr} {sv lv fv : Value} {soft : Bool} {ra : Option Addr} {rc : Nat} {R : List Rec} (hsum : sum < 4294967296) {dat : List Nat} (hfit : Fit ⟨Nm 1, dat, dat.length⟩) {n : Nat} {nn : Bool} {Q : List Rec} (hQ : Q = R.take (if nn then 0 else n)) (hn : n ≤ R.length) (hR12 : R.length ≤ 12) (hrc : R.length ≤ rc) (hra : ∀ p, ra = some p → ∃ b off, p = ⟨b, off, none⟩) (hG : Gives (one dat) sum [] Q) (p : Option Addr) (c : Nat) (hpc : p = none → c = 0) (hlc : dat.length ≤ c) (w : World) (hlo : lo ≤ w.heap.size) (ht : TabL lo w) (hrow : w.heap[ub]? = some (wdRow db wp sum sv (.slice ra R.length rc) lv fv soft)) (hR : RcAt w ra R) (hB : Byts w p dat) :
    Calls Tryz.prog 15 #[.pointer (some ⟨ub, 0, none⟩), .string (strB (Nm 1)), .slice p dat.length c, .int .i64 (n : Int), .bool nn] w fun e w' => e = .returned (.bool true) ∧ Below w.heap.size w w' := by
  obtain ⟨W1, hW1⟩ : ∃ W1, w.alloc (.cells #[.string (strB (Nm 1)), .slice p dat.length c, .int .i64 (dat.length : Int)] 45) = W1 := ⟨_, rfl⟩
  have b1 : Below w.heap.size w W1 := by rw [← hW1]; exact (Below.refl _ _).alloc (Nat.le_refl _) _
  have r1 : W1.heap[w.heap.size]? = some (.cells #[.string (strB (Nm 1)), .slice p dat.length c, .int .i64 (dat.length : Int)] 45 (0, 0)) := by rw [← hW1]; exact heap_new w _
  have hA : FfAt W1 (some ⟨w.heap.size, 0, none⟩) [⟨Nm 1, dat, dat.length⟩] := .inr ⟨w.heap.size, 0, rfl, (Array.getElem?_eq_some_iff.1 r1).1, fun i hi => by
    obtain rfl : i = 0 := by simpa using hi
    exact ⟨cell_of_row _ _ 0 _ _ _ r1, ⟨p, c, cell_of_row _ _ 1 _ _ _ r1, hpc, hlc, hB.later b1⟩, cell_of_row _ _ 2 _ _ _ r1⟩⟩
  have hN := newDisk_ok [⟨Nm 1, dat, dat.length⟩] (fun f hf => by rw [List.mem_singleton.1 hf]; exact hfit) (fun i j hi hj hij => by simp at hi hj; omega) (by simp) (some ⟨w.heap.size, 0, none⟩) 1 W1 hA
  rw [show insAll [⟨Nm 1, dat, dat.length⟩] = [⟨Nm 1, dat, dat.length⟩] from rfl] at hN
  change Calls _ _ _ _ (fun e w' => ∃ S db, e = _ ∧ DiskAt w' W1.heap.size S db (one dat) ∧ Below W1.heap.size W1 w') at hN
  have ht1 : TabL W1.heap.size W1 := (ht.next (b1.mono hlo)).mono (Nat.le_trans hlo b1.size)
  obtain ⟨mt, hmt⟩ : ∃ m, (if nn then 0 else n) = m := ⟨_, rfl⟩
  rw [hmt] at hQ
  have hml : mt ≤ R.length := by rw [← hmt]; split <;> omega
  have hQl : Q.length = mt := by rw [hQ, List.length_take]; omega
  have hOp : Hid (∀ (w2 : World) (S : Nat → Prop) (db2 : Nat), DiskAt w2 W1.heap.size S db2 (one dat) → Below W1.heap.size W1 w2 → Calls Tryz.prog 24 #[.pointer (some ⟨db2, 0, none⟩), .int .u32 (sum : Int)] w2 fun e X => ∃ wb sa sc ra' rc', e = .returned (.tuple #[.pointer (some ⟨wb, 0, none⟩), .slice sa 0 sc, .slice ra' mt rc', .int .i64 0]) ∧ DwAt X wb db2 sum 1 mt false ∧ RcAt X ra' Q ∧ Below W1.heap.size W1 X) := ⟨fun w2 S db2 hD hb2 => by
    refine (open_any sum hsum (fun f hf => ⟨1, by decide, by rw [List.mem_singleton.1 hf]⟩) w2 hb2.size (ht1.next hb2) hD).mono ?_
    rintro e X ⟨S', h1, h2, h3⟩
    obtain ⟨e1, e2, -, -⟩ := hG
    rw [e2] at h3
    obtain ⟨wb, sa, sc, ra', rc', rfl, -, h4, h5, h6, h7, h8⟩ := h3
    rw [hQl] at h8 h5 ⊢
    exact ⟨wb, sa, sc, ra', rc', rfl, h5, h8.at_, hb2.trans (h2.below' hb2.size hD.low)⟩⟩
  have hS := Hid.mk (fun (X : World) (ra' : Option Addr) (rc' : Nat) (hX : RcAt X ra' Q) (hb : Below W1.heap.size W1 X) => sameRecords_any Q Q (by omega) ra' ra rc' rc X hX (by rw [hQ]; exact rcAt_take ((hR.later b1).later hb) mt))
  rw [hQl] at hS
  simp only [decide_true] at hS
  have hsl := slice_rec ra R.length rc mt hra (by omega)
  have hK := Hid.mk (fun X (hX : Below W1.heap.size W1 X) => (((below_step b1 hX).block _ (wd_lt hrow)).trans hrow : X.heap[ub]? = _))
  have hn1 : ∀ (b : Nat) (W : World), (binOp BinOp.eql 27 (.pointer (some ⟨b, 0, none⟩)) (.pointer none)).run Tryz.prog W = .ok (.bool false) W := fun _ _ => rfl
  have hn2 : ∀ (b : Nat) (W : World), (binOp BinOp.neq 28 (.pointer (some ⟨b, 0, none⟩)) (.pointer none)).run Tryz.prog W = .ok (.bool true) W := fun _ _ => rfl
  replace hN := Hid.mk hN
  replace b1 := Hid.mk b1
  simp only [List.length_singleton] at hN
  clear hA r1 hG hR hB hfit hQ ht ht1 hrow
  generalize strB (Nm 1) = nm at *
  cases nn with
  | true =>
    simp only [if_true] at hmt
    subst hmt
    go_enter Tryz.func15, Tryz.ntmps15
    go_upto_region 4 with (go_at_call 26; refine hN.out.mono ?_; rintro e w2 ⟨S2, db2, rfl, hD2, hb2⟩)
    have c2 := wd_cells (hK.out _ hb2)
    obtain ⟨-, -, c22, -⟩ := c2
    have hO2 := hOp.out w2 S2 db2 hD2 hb2
    clear hD2 hOp
    go_upto_region 7 with (go_at_call 24; refine hO2.mono ?_; rintro e w3 ⟨wb, sa, sc, ra3, rc3, rfl, hw3, hR3, hb3⟩)
    have c3 := wd_cells (hK.out _ hb3)
    obtain ⟨-, -, -, -, c34, -⟩ := c3
    have hS3 := hS.out w3 ra3 rc3 hR3 hb3
    have hL3 := Hid.mk (fun m => len_any (w3.drewN m) (hw3.later (below_drewN (Below.refl _ _) m)))
    clear hw3 hR3 hO2 c22 hS
    go_wp2_with (first | (go_at_call 36; refine hS3.mono ?_; rintro e w4 ⟨rfl, m4, rfl⟩) | (go_at_call 28; refine (hL3.out m4).mono ?_; rintro e w5 ⟨rfl, rfl⟩))
    go_ret
    exact ⟨rfl, below_drewN (below_step b1.out hb3) m4⟩
  | false =>
    simp only [Bool.false_eq_true, if_false] at hmt
    subst hmt
    go_enter Tryz.func15, Tryz.ntmps15
    go_upto_region 4 with (go_at_call 26; refine hN.out.mono ?_; rintro e w2 ⟨S2, db2, rfl, hD2, hb2⟩)
    have c2 := wd_cells (hK.out _ hb2)
    obtain ⟨-, -, c22, -⟩ := c2
    have hO2 := hOp.out w2 S2 db2 hD2 hb2
    clear hD2 hOp
    go_upto_region 7 with (go_at_call 24; refine hO2.mono ?_; rintro e w3 ⟨wb, sa, sc, ra3, rc3, rfl, hw3, hR3, hb3⟩)
    have c3 := wd_cells (hK.out _ hb3)
    obtain ⟨-, -, -, -, c34, -⟩ := c3
    have hS3 := hS.out w3 ra3 rc3 hR3 hb3
    have hL3 := Hid.mk (fun m => len_any (w3.drewN m) (hw3.later (below_drewN (Below.refl _ _) m)))
    clear hw3 hR3 hO2 c22 hS
    go_wp2_with (first | (go_at_call 36; refine hS3.mono ?_; rintro e w4 ⟨rfl, m4, rfl⟩) | (go_at_call 28; refine (hL3.out m4).mono ?_; rintro e w5 ⟨rfl, rfl⟩))
    go_ret
    exact ⟨rfl, below_drewN (below_step b1.out hb3) m4⟩
end Go.Proofs.YtakcdgeanbpllaaGreatDoor.DJ


/- FILES IN MEMORY OF THEIR OWN; Disk.Files. -/
namespace Go.Proofs.YtakcdgeanbpllaaGreatDoor.DJ
open Go.RowKit
set_option linter.constructorNameAsVariable false

def ffV (L : List (Fl × Value)) : List Value := L.flatMap fun x => [.string (strB x.1.nm), x.2, .int .i64 (x.1.sure : Int)]
theorem ffV_snoc (L : List (Fl × Value)) (r : Fl) (v : Value) : ffV (L ++ [(r, v)]) = ffV L ++ [.string (strB r.nm), v, .int .i64 (r.sure : Int)] := by unfold ffV; rw [List.flatMap_append]; rfl
theorem ffV_get : ∀ (L : List (Fl × Value)) (i : Nat) (h : i < L.length), (ffV L)[i * 3]? = some (.string (strB L[i].1.nm)) ∧ (ffV L)[i * 3 + 1]? = some L[i].2 ∧ (ffV L)[i * 3 + 2]? = some (.int .i64 (L[i].1.sure : Int))
  | d :: D, 0, _ => ⟨rfl, rfl, rfl⟩
  | d :: D, i + 1, h => by
    have := ffV_get D i (by simpa using h)
    rw [show (i + 1) * 3 = i * 3 + 3 by omega]
    exact this

/-- One file and its bytes. -/
structure FfB (w : World) (base : Nat) (x : Fl × Value) : Prop where
  byt : ∀ y ∈ x.1.dat, y < 256
  own : w.ownsRow base 5 1 x.2 x.1.dat.length (bysV x.1.dat)
def FfO (w : World) (base : Nat) (v : Value) (R : List Fl) : Prop := ∃ L : List (Fl × Value), L.map Prod.fst = R ∧ w.ownsRow base 45 3 v R.length (ffV L) ∧ ∀ x ∈ L, FfB w base x
theorem FfO.nil (w : World) (base : Nat) : FfO w base (.slice none 0 0) [] := ⟨[], rfl, World.ownsRow_nil _ _ _ _, fun x hx => by simp at hx⟩
theorem FfB.grS {S : Nat → Prop} {w w' : World} {base : Nat} {x : Fl × Value} (h : FfB w base x) (hg : GrS S w w') (hS : ∀ g cs, base ≤ g → w.heap[g]? = some (.cells cs 5 (0, 0)) → ¬ S g) : FfB w' base x :=
  ⟨h.byt, hg.own h.own (fun g e => by obtain ⟨q, cs, r⟩ := own_rowT h.own e; exact hS g cs q r)⟩
theorem FfO.later {w w' : World} {base : Nat} {v : Value} {R : List Fl} (h : FfO w base v R) (hb : Below w.heap.size w w') : FfO w' base v R := by
  obtain ⟨L, h1, h2, h3⟩ := h
  exact ⟨L, h1, own_later h2 hb, fun x hx => (h3 x hx).grS (S := fun _ => False) (.of_below hb) (fun _ _ _ _ h => h)⟩
theorem FfO.mono {w : World} {base base' : Nat} {v : Value} {R : List Fl} (h : FfO w base v R) (hb : base' ≤ base) : FfO w base' v R := by
  obtain ⟨L, h1, h2, h3⟩ := h
  exact ⟨L, h1, h2.mono hb, fun x hx => ⟨(h3 x hx).byt, (h3 x hx).own.mono hb⟩⟩
theorem ff_snoc {w w' : World} {base : Nat} {v v' bv : Value} {L : List (Fl × Value)} {r : Fl} (ho : w.ownsRow base 45 3 v L.length (ffV L)) (hL : ∀ x ∈ L, FfB w base x) (hr : FfB w base (r, bv)) (hg : w.grownBy w' v.ownBlock) (ho' : w'.ownsRow base 45 3 v' (L.length + 1) (ffV L ++ [.string (strB r.nm), bv, .int .i64 (r.sure : Int)])) : FfO w' base v' (L.map Prod.fst ++ [r]) := by
  have hG : GrS (fun k => v.ownBlock = some k) w w' := .of_grown' hg (fun k e => e)
  have hS : ∀ g cs, base ≤ g → w.heap[g]? = some (.cells cs 5 (0, 0)) → ¬ v.ownBlock = some g := fun g cs _ hc e => by
    obtain ⟨-, cs', r'⟩ := own_rowT ho e
    rw [hc] at r'
    simp at r'
  refine ⟨L ++ [(r, bv)], by simp, ?_, fun x hx => ?_⟩
  · rw [ffV_snoc, List.length_append, List.length_map]
    exact ho'
  · rcases List.mem_append.1 hx with hx | hx
    · exact (hL x hx).grS hG hS
    · rw [List.mem_singleton.1 hx]
      exact hr.grS hG hS
theorem FfO.len {w : World} {base : Nat} {v : Value} {R : List Fl} (h : FfO w base v R) : ∃ a c, v = .slice a R.length c ∧ (a = none → c = 0) ∧ R.length ≤ c ∧ ∀ p, a = some p → base ≤ p.block := by
  obtain ⟨L, h1, h2, h3⟩ := h
  obtain ⟨q1, ⟨rfl, h0⟩ | ⟨g, cap, cur, rfl, hb, r, h4, -⟩⟩ := h2
  · rw [h0]
    exact ⟨none, 0, rfl, fun _ => rfl, Nat.le_refl _, fun p e => by cases e⟩
  · exact ⟨_, _, rfl, fun e => (by cases e), by omega, fun p e => by cases e; exact hb⟩
theorem FfO.at_ {w : World} {base : Nat} {a : Option Addr} {n c : Nat} {R : List Fl} (h : FfO w base (.slice a n c) R) : FfAt w a R := by
  obtain ⟨L, rfl, h2, h3⟩ := h
  have h0 := h2
  obtain ⟨q1, ⟨e, hn⟩ | ⟨g, cap, cur, e, hb, r, -⟩⟩ := h0
  · exact .inl (List.length_eq_zero_iff.1 hn)
  · injection e with e1 e2 e3
    subst e1
    rw [e2] at h2
    refine .inr ⟨g, 0, rfl, (h2.lt g rfl).2, fun i hi => ?_⟩
    rw [List.length_map] at hi
    obtain ⟨g1, g2, g3⟩ := ffV_get L i hi
    have hl : (ffV L).length = (L.map Prod.fst).length * 3 := h2.1
    rw [List.length_map] at hl
    have hx := h3 L[i] (List.getElem_mem hi)
    obtain ⟨p, cc, hp⟩ := own_lenB hx.own
    have k1 := h2.cellAt (i * 3) (by rw [List.length_map]; omega)
    have k2 := h2.cellAt (i * 3 + 1) (by rw [List.length_map]; omega)
    have k3 := h2.cellAt (i * 3 + 2) (by rw [List.length_map]; omega)
    have ho := hx.own
    rw [hp] at ho
    rw [Nat.zero_add, List.getElem_map]
    refine ⟨k1.trans g1, ⟨p, cc, ?_, (own_pos ho).1, (own_pos ho).2.1, byts_of_own (n := L[i].1.dat.length) hx.byt ho⟩, k3.trans g3⟩
    rw [← hp]
    exact k2.trans g2

theorem infoFf : (Tryz.prog.info? 45).map (fun i => (i.zero, i.size, i.bytes)) = some (some (.agg #[.string "".toUTF8, .slice none 0 0, .int .i64 0]), 3, 48) := by kernel_rfl

set_option maxRecDepth 8000 in
set_option maxHeartbeats 1000000 in
theorem files_any {lo db : Nat} {S : Nat → Prop} {d : Dk} (w : World) (h : DiskAt w lo S db d) :
    Calls Tryz.prog 14 #[.pointer (some ⟨db, 0, none⟩)] w fun e w' => ∃ a c, e = .returned (.slice a d.fs.length c) ∧ FfO w' w.heap.size (.slice a d.fs.length c) d.fs ∧ Below w.heap.size w w' := by
  have hN := names_any w h
  have h40 : d.fs.length ≤ 40 := by obtain ⟨mb, D, fb, vv, h⟩ := h; exact h.ok.len
  go_enter Tryz.func14, Tryz.ntmps14
  go_wp2_with (go_at_call 34; refine hN.mono ?_; rintro e w2 ⟨v, rfl, hrow, hb2⟩; obtain ⟨p, c, rfl⟩ := own_lenB hrow)
  obtain ⟨mb, D, fb, vv, hL2⟩ := h.later hb2
  clear hN h
  obtain ⟨i0, hi5, hz0, hz1, hz2⟩ := info_parts infoFf
  have hI : Hid (∃ a c, (Value.slice none 0 0 = .slice a 0 c) ∧ FfO w2 w2.heap.size (.slice a 0 c) []) := ⟨none, 0, rfl, FfO.nil _ _⟩
  go_loopw [10, 3] (fun v u wr => ∃ i : Nat, i ≤ d.fs.length ∧ v = .int .i64 (i : Int) ∧ (∃ a c, u = .slice a i c ∧ FfO wr w2.heap.size (.slice a i c) (d.fs.take i)) ∧ Below w2.heap.size w2 wr) (fun v _ _ => d.fs.length - (intOf v).toNat)
  case atStart => exact ⟨0, Nat.zero_le _, rfl, hI.out, Below.refl _ _⟩
  case round =>
    clear hI
    obtain ⟨i, hi, rfl, ⟨ua, uc, rfl, hF⟩, hb⟩ := hrel
    by_cases hlt : i < d.fs.length
    · have hlt' : (i : Int) < (d.fs.length : Int) := by omega
      have hi0 : (0 : Int) ≤ (i : Int) := by omega
      obtain ⟨gp, hgp⟩ : ∃ gp, p = some ⟨gp, 0, none⟩ := by
        obtain ⟨-, ⟨e, h0⟩ | ⟨gg, cc, cur, e, -⟩⟩ := hrow
        · omega
        · injection e with e1
          exact ⟨gg, e1⟩
      subst hgp
      have hnm := (hb.cell (p := ⟨gp, i, none⟩) (World.block_lt_of_cell? _ _ (name_at hrow hlt rfl))).trans (name_at hrow hlt rfl)
      have hS : d.fs.take (i + 1) = d.fs.take i ++ [d.fs[i]] := List.take_succ_eq_append_getElem hlt
      have hin : d.fs[i] ∈ d.fs := List.getElem_mem hlt
      have htl : (d.fs.take i).length = i := by rw [List.length_take]; omega
      generalize d.fs[i] = f at *
      have hL := hL2.grS (T := fun _ => False) (.of_below hb) (fun _ _ h => h)
      obtain ⟨c0, -⟩ := hL.cells
      have hlk := hL.look hin
      have hFA := hL2.fil f hin
      obtain ⟨k0, k1, -, -⟩ := hFA.cells
      have hsiz := hL.ok.siz f hin
      have hbyt := hL.ok.byt f hin
      have hfl : fb f.nm < w2.heap.size := hL2.hi _ (hL2.Sfb _ hin)
      obtain ⟨pv, cv, hv⟩ := own_lenB hFA.dat
      have hFd := hFA.dat
      rw [hv] at k0 hFd
      generalize fb f.nm = b at *
      have hK := Hid.mk (fun X (hX : Below w2.heap.size w2 X) => And.intro ((hX.cell (p := ⟨b, 0, none⟩) hfl).trans k0) ((hX.cell (p := ⟨b, 1, none⟩) hfl).trans k1))
      have hby : Hid (∀ X, Below w2.heap.size w2 X → Byts X pv f.dat) := ⟨fun X hX => (byts_of_own (n := f.dat.length) hbyt hFd).later hX⟩
      have hC6 := Hid.mk (fun X (hX : Below w2.heap.size w2 X) => bclone_any pv cv (own_pos hFd).1 f.dat (Nat.le_trans hsiz (by decide)) X (hby.out X hX))
      have bd : Below w2.heap.size w2 wr.drew := below_step hb ((Below.refl _ _).drew)
      have bw : Below wr.heap.size wr wr.drew := (Below.refl _ _).drew
      have S0 := hK.out _ hb
      have S0' := hK.out _ bd
      have hbase : w2.heap.size ≤ wr.heap.size := hb.size
      replace hF := Hid.mk hF
      replace hbyt := Hid.mk hbyt
      replace hb := Hid.mk hb
      replace hrow := Hid.mk hrow
      clear hL hFA k0 k1 hsiz hFd hby
      generalize hsn : strB f.nm = sn at *
      replace hsn := Hid.mk hsn
      go_upto_region 6 with fail
      go_region_held3 (fun X => X.cell? ⟨b, 0, none⟩ = some (.slice pv f.dat.length cv) ∧ X.cell? ⟨b, 1, none⟩ = some (.int .i64 (f.sure : Int))) (with_reducible assumption) (first | (go_at_call 35; refine (hC6.out _ bd).mono ?_; rintro e w8 ⟨p8, c8, rfl, ho8, hb8⟩; have Q8 := below_step bw hb8; have A8 : Below w8.heap.size w8 (w8.alloc (.cells #[.string sn, .slice p8 f.dat.length c8, .int .i64 (f.sure : Int)] 45)) := (Below.refl _ _).alloc (Nat.le_refl _) _; have D8 := below_step bd hb8; have D9 := below_step D8 A8; have S8 := hK.out _ D8; have S9 := hK.out _ D9; obtain ⟨L, hLm, hoL, hbL⟩ := (hF.out.later Q8).later A8; rw [htl] at hoL; have hR8 := Hid.mk (FfB.mk (x := (f, .slice p8 f.dat.length c8)) hbyt.out (own_later (ho8.mono hbase) A8)); replace hbL := Hid.mk hbL; replace hLm := Hid.mk hLm) | (refine step_append_own (P := Tryz.prog) _ rfl _ _ 42 rfl w2.heap.size 45 i0 _ 3 48 Tryz.underlying42 hi5 hz0 hz1 hz2 rfl (by decide) _ i (ffV L) rfl hoL ⟨w8.heap.size, 0, none⟩ 1 1 [.string sn, .slice p8 f.dat.length c8, .int .i64 (f.sure : Int)] rfl rfl (lit_at w8 _ _) (by simp [Value.oneCell']) (by unfold maxLen; omega) (by omega) D9.size ?_; intro v' w9 hown' hgrow; have b9 := Hid.mk (D9.trans ((GrS.of_grown' (S := fun k => (Value.slice ua i uc).ownBlock = some k) hgrow (fun k e => e)).below D9.size (fun k e => (own_rowT hoL e).1))); have S10 := hK.out _ b9.out))
      have hl9 : L.length = i := by rw [← htl, ← hLm.out, List.length_map]
      have hrc9 := ff_snoc (r := f) (by rw [hl9]; exact hoL) hbL.out hR8.out hgrow (by rw [hl9, hsn.out]; exact hown')
      rw [hLm.out, ← hS] at hrc9
      have hrow9 := own_lenB hown'
      obtain ⟨a9, c9, rfl⟩ := hrow9
      replace hrc9 := Hid.mk hrc9
      clear hoL hown' hgrow S0 S0' S8 S9 S10 hS htl hlk hl9 hnm
      go_wp2
      go_roundw
      case rel => exact ⟨i + 1, by omega, by first | rfl | go_num, ⟨a9, c9, rfl, hrc9.out⟩, b9.out⟩
      case measure => simp [intOf]; omega
    · have hlt' : ¬ (i : Int) < (d.fs.length : Int) := by omega
      obtain rfl : i = d.fs.length := by omega
      rw [List.take_length] at hF
      replace hF := Hid.mk hF
      go_wp2
      go_ret
      exact ⟨ua, uc, rfl, hF.out.mono hb2.size, below_step hb2 hb⟩
end Go.Proofs.YtakcdgeanbpllaaGreatDoor.DJ


/- What DrawerCut lays, reckoned. -/
namespace Go.Proofs.YtakcdgeanbpllaaGreatDoor.DJ
open Go.RowKit

/-- The records that DrawerCut puts. -/
def cutR (bs : List (List Nat)) (i : Nat) : List Rec := (bs.take i).mapIdx fun k b => (k, b.take 300)
theorem cutR_zero (bs : List (List Nat)) : cutR bs 0 = [] := rfl
theorem cutR_len (bs : List (List Nat)) {i : Nat} (h : i ≤ bs.length) : (cutR bs i).length = i := by unfold cutR; rw [List.length_mapIdx, List.length_take]; omega
theorem cutR_step (bs : List (List Nat)) {i : Nat} (h : i < bs.length) : cutR bs (i + 1) = cutR bs i ++ [(i, bs[i].take 300)] := by
  unfold cutR
  rw [List.take_succ_eq_append_getElem h, List.mapIdx_append]
  simp only [List.mapIdx_cons, List.mapIdx_nil, List.length_take]
  rw [Nat.min_eq_left (Nat.le_of_lt h)]
  simp
theorem cutR_mem {bs : List (List Nat)} {i : Nat} {r : Rec} (h : r ∈ cutR bs i) : r.1 < i ∧ r.2.length ≤ 300 ∧ ∃ b ∈ bs, r.2 = b.take 300 := by
  unfold cutR at h
  obtain ⟨k, hk, rfl⟩ := List.mem_mapIdx.1 h
  rw [List.length_take] at hk
  refine ⟨by omega, by simp only [List.length_take]; omega, _, List.mem_of_mem_take (List.getElem_mem _), rfl⟩

/-- How long the journal is then. -/
def szR (R : List Rec) : Nat := 18 + (R.map fun r => 18 + r.2.length).sum
theorem szR_snoc (R : List Rec) (r : Rec) : szR (R ++ [r]) = szR R + 18 + r.2.length := by unfold szR; simp; omega
theorem encR_sz (sum : Nat) (R : List Rec) : ∀ k, (encR sum k R).length = (R.map fun r => 18 + r.2.length).sum := by
  induction R with
  | nil => intro k; rfl
  | cons r R ih =>
    intro k
    simp only [encR, List.length_append, List.map_cons, List.sum_cons, piece_len, ih]
    omega
theorem enc_sz (sum : Nat) (R : List Rec) : (enc sum [] R).length = szR R := by rw [enc_len, encR_sz]; simp [szR]
theorem szR_le {R : List Rec} (h : ∀ r ∈ R, r.2.length ≤ 300) : szR R ≤ 18 + R.length * 318 := by
  unfold szR
  have : (R.map fun r => 18 + r.2.length).sum ≤ R.length * 318 := by
    induction R with
    | nil => simp
    | cons r R ih =>
      have := ih (fun x hx => h x (List.mem_cons_of_mem _ hx))
      have := h r (List.mem_cons_self ..)
      simp only [List.map_cons, List.sum_cons, List.length_cons]
      omega
  omega
theorem szR_mono (R : List Rec) {a b : Nat} (h : a ≤ b) : szR (R.take a) ≤ szR (R.take b) := by
  unfold szR
  have : R.take a = (R.take b).take a := by rw [List.take_take, Nat.min_eq_left h]
  rw [this]
  have : ∀ (L : List Rec) n, ((L.take n).map fun r => 18 + r.2.length).sum ≤ (L.map fun r => 18 + r.2.length).sum := by
    intro L
    induction L with
    | nil => intro n; simp
    | cons r L ih =>
      intro n
      cases n with
      | zero => simp
      | succ n =>
        have := ih n
        simp only [List.take_succ_cons, List.map_cons, List.sum_cons]
        omega
  have := this (R.take b) a
  omega
theorem szR_take (R : List Rec) {n : Nat} (h : n < R.length) : szR (R.take (n + 1)) = szR (R.take n) + 18 + R[n].2.length := by rw [List.take_succ_eq_append_getElem h, szR_snoc]

theorem put_cut {sum : Nat} {R : List Rec} {d : Dk} {r : Rec} (hB : Base sum [] R 1 d.fs) (hC : Calm d) (hr : r.2.length ≤ 300) (hR : szR R ≤ 1000000) :
    ∃ d', putR d sum 1 R.length false r = (0, d', R.length + 1, false) ∧ Base sum [] (R ++ [r]) 1 d'.fs ∧ Calm d' := by
  obtain ⟨h1, h2, h3⟩ := put_on (r := r) hB (by omega) (by rw [enc_sz]; omega) (u := none) (a := d.after) (c := 0) ⟨hC.1, hC.2.1, rfl, hC.2.2⟩ (.inl rfl) (fun n e => by cases e)
  exact ⟨_, putR_ok (by omega) h1, h2, h3.up, h3.units, h3.calls⟩

theorem step_append_at {P : Program} {ops : Array Oper} {o : Oper} {a : Act} (w : World) {K : Act → World → Prop} {Q : Exit → Act → World → Prop} {E : Prop}
    (hg : o.guard = none) (s x : Operand) (t : TypeId) (ho : o.op = .call { callee := .builtin .append, args := #[s, x], argTypes := #[t, t] })
    (base : Nat) (e : TypeId) (i : TypeInfo) (z : Value) (size bytes : Nat) (ht : P.underlying t = some (.slice e)) (hi : P.info? e = some i) (hz : i.zero = some z)
    (hsize : i.size = size) (hby : i.bytes = bytes) (hzs : z.cells.size = size) (hsz : 0 < size)
    (v : Value) (n : Nat) (xs : List Value) (hs : a.eval s = v) (hown : w.ownsRow base e size v n xs)
    (ad : Addr) (m c : Nat) (news : List Value) (hx : a.eval x = .slice (some ad) m c) (hl : news.length = m * size) (hnews : ∀ j u, news[j]? = some u → w.cell? (ad.add j) = some u) (h1 : ∀ u ∈ news, u.oneCell' = true)
    (h63 : n + m ≤ maxLen) (hbytes : (n + m) * bytes ≤ 140737488355328) (hbase : base ≤ w.heap.size)
    (h : ∀ v' w', w'.ownsRow base e size v' (n + m) (xs ++ news) → w.grownBy w' v.ownBlock → (v'.ownBlock = v.ownBlock ∨ v'.ownBlock = some w.heap.size) → K (a.put o.dst v') w') : if Region.wanted o (yielded ops a.tmps) = true then Oper.wp P o a w K Q else E := by
  rw [if_pos (by simp [Region.wanted, hg])]
  obtain ⟨v', w', hr, h2, h3, h4, h5⟩ := run_append_own_at (P := P) w base t o.type e i z size bytes ht hi hz hsize hby hzs hsz v n xs hown ad m c news hl hnews h1 h63 hbytes hbase
  unfold Oper.wp execOp
  simp only [ho, resolve, invoke, builtin, Sem.run_bind, Sem.run_pure, Result.andThen_ok, List.map_toArray, List.map_cons, List.map_nil, hs, hx, hr]
  exact h v' w' h2 h3 h5
end Go.Proofs.YtakcdgeanbpllaaGreatDoor.DJ


/- DrawerCut's state while it puts. -/
namespace Go.Proofs.YtakcdgeanbpllaaGreatDoor.DJ
open Go.RowKit

/-- Records in memory of their own, in the blocks T. -/
def RcX (W : World) (lo : Nat) (T : Nat → Prop) (v : Value) (R : List Rec) : Prop := ∃ L : List (Rec × Value), L.map Prod.fst = R ∧ W.ownsRow lo 38 2 v R.length (rcV L) ∧ (∀ g, v.ownBlock = some g → T g) ∧ ∀ x ∈ L, RcB W lo x ∧ ∀ g, x.2.ownBlock = some g → T g
theorem RcX.rc {W : World} {lo : Nat} {T : Nat → Prop} {v : Value} {R : List Rec} (h : RcX W lo T v R) : RcO W lo v R := by
  obtain ⟨L, h1, h2, -, h3⟩ := h
  exact ⟨L, h1, h2, fun x hx => (h3 x hx).1⟩
theorem RcX.nil (W : World) (lo : Nat) (T : Nat → Prop) : RcX W lo T (.slice none 0 0) [] := ⟨[], rfl, World.ownsRow_nil _ _ _ _, fun g e => (by cases e), fun x hx => (by simp at hx)⟩
theorem RcX.grS {W W' : World} {lo : Nat} {T U : Nat → Prop} {v : Value} {R : List Rec} (h : RcX W lo T v R) (hg : GrS U W W') (hU : ∀ k, T k → ¬ U k) : RcX W' lo T v R := by
  obtain ⟨L, h1, h2, h3, h4⟩ := h
  exact ⟨L, h1, hg.own h2 (fun g e => hU g (h3 g e)), h3, fun x hx => ⟨⟨(h4 x hx).1.kd, (h4 x hx).1.byt, hg.own (h4 x hx).1.own (fun g e => hU g ((h4 x hx).2 g e))⟩, (h4 x hx).2⟩⟩
theorem RcX.more {W : World} {lo : Nat} {T T' : Nat → Prop} {v : Value} {R : List Rec} (h : RcX W lo T v R) (hT : ∀ k, T k → T' k) : RcX W lo T' v R := by
  obtain ⟨L, h1, h2, h3, h4⟩ := h
  exact ⟨L, h1, h2, fun g e => hT g (h3 g e), fun x hx => ⟨(h4 x hx).1, fun g e => hT g ((h4 x hx).2 g e)⟩⟩

/-- The ends of the pieces. -/
def endV (R : List Rec) : List Value := (List.range R.length).map fun k => .int .i64 (szR (R.take (k + 1)) : Int)
theorem endV_snoc (R : List Rec) (r : Rec) : endV (R ++ [r]) = endV R ++ [.int .i64 (szR (R ++ [r]) : Int)] := by
  unfold endV
  rw [List.length_append, List.length_singleton, List.range_succ, List.map_append]
  congr 1
  · refine List.map_congr_left fun k hk => ?_
    rw [List.mem_range] at hk
    rw [List.take_append_of_le_length (by omega)]
  · simp only [List.map_cons, List.map_nil]
    rw [List.take_of_length_le (by simp)]
theorem endV_len (R : List Rec) : (endV R).length = R.length := by simp [endV]
theorem endV_get (R : List Rec) {k : Nat} (h : k < R.length) : (endV R)[k]? = some (.int .i64 (szR (R.take (k + 1)) : Int)) := by simp [endV, h]

/-- D: on the disk; R: among the records; E: whose ends are told. -/
structure CutS (lo : Nat) (S T : Nat → Prop) (ub db wb sum : Nat) (d : Dk) (D R E : List Rec) (ev : Value) (W : World) : Prop where
  disk : DiskAt W lo S db d
  bas : Base sum [] D 1 d.fs
  calm : Calm d
  drw : DwAt W wb db sum 1 D.length false
  row : ∃ sv rv, W.heap[ub]? = some (wdRow db (some ⟨wb, 0, none⟩) sum sv rv (.slice none 0 0) (.slice none 0 0) false) ∧ RcX W lo T rv R
  ends : W.ownsRow lo 3 1 ev E.length (endV E)
  eT : ∀ g, ev.ownBlock = some g → T g
  nwb : ¬ S wb
  nub : ¬ S ub
  ne : wb ≠ ub
  lwb : lo ≤ wb
  lub : lo ≤ ub
  TS : ∀ k, T k → ¬ S k ∧ k ≠ wb ∧ k ≠ ub ∧ lo ≤ k ∧ k < W.heap.size
section
variable {lo : Nat} {S S' T : Nat → Prop} {ub db wb sum : Nat} {d d' : Dk} {D R E : List Rec} {ev : Value} {W X : World}
theorem CutS.c (h : CutS lo S T ub db wb sum d D R E ev W) : W.cell? ⟨ub, 0, none⟩ = some (.pointer (some ⟨db, 0, none⟩)) ∧ W.cell? ⟨ub, 1, none⟩ = some (.pointer (some ⟨wb, 0, none⟩)) ∧ W.cell? ⟨ub, 2, none⟩ = some (.int .u32 (sum : Int)) := by
  obtain ⟨sv, rv, hr, -⟩ := h.row
  obtain ⟨c0, c1, c2, -⟩ := wd_cells hr
  exact ⟨c0, c1, c2⟩
theorem CutS.ult (h : CutS lo S T ub db wb sum d D R E ev W) : ub < W.heap.size := by
  obtain ⟨sv, rv, hr, -⟩ := h.row
  exact wd_lt hr
theorem CutS.later (h : CutS lo S T ub db wb sum d D R E ev W) (hX : Below W.heap.size W X) : CutS lo S T ub db wb sum d D R E ev X where
  disk := h.disk.later hX
  bas := h.bas
  calm := h.calm
  drw := h.drw.later hX
  row := by
    obtain ⟨sv, rv, hr, hx⟩ := h.row
    exact ⟨sv, rv, (hX.block _ (wd_lt hr)).trans hr, hx.grS (U := fun _ => False) (.of_below hX) (fun _ _ h => h)⟩
  ends := own_later h.ends hX
  eT := h.eT
  nwb := h.nwb
  nub := h.nub
  ne := h.ne
  lwb := h.lwb
  lub := h.lub
  TS := fun k hk => by
    obtain ⟨a, b, c, d, e⟩ := h.TS k hk
    exact ⟨a, b, c, d, Nat.lt_of_lt_of_le e hX.size⟩
theorem CutS.put (h : CutS lo S T ub db wb sum d D R E ev W) {r : Rec} (hD : DiskAt X lo S' db d') (hw : DwAt X wb db sum 1 (D.length + 1) false) (hv : Dw S wb W S' X) (hB : Base sum [] (D ++ [r]) 1 d'.fs) (hC : Calm d') : CutS lo S' T ub db wb sum d' (D ++ [r]) R E ev X := by
  obtain ⟨sv, rv, hr, hx⟩ := h.row
  have hl := wd_lt hr
  have hwl := h.drw.lt
  have hT : ∀ k, T k → ¬ (S k ∨ k = wb) := fun k hk e => by
    obtain ⟨a, b, -⟩ := h.TS k hk
    exact e.elim a b
  have hS' : ∀ k, k < W.heap.size → ¬ S k → ¬ S' k := fun k hk hn e => by
    rcases hv.sub _ e with e | e
    · exact hn e
    · omega
  refine ⟨hD, hB, hC, by rw [List.length_append]; exact hw, ⟨sv, rv, (hv.gr.block ub hl (fun e => e.elim h.nub (fun e => h.ne e.symm))).trans hr, hx.grS hv.gr hT⟩, hv.gr.own h.ends (fun g e => hT g (h.eT g e)), h.eT, hS' _ hwl h.nwb, hS' _ hl h.nub, h.ne, h.lwb, h.lub, fun k hk => ?_⟩
  obtain ⟨a, b, c, e, f⟩ := h.TS k hk
  exact ⟨hS' k f a, b, c, e, Nat.lt_of_lt_of_le f hv.gr.size⟩
theorem CutS.bel (h : CutS lo S T ub db wb sum d D R E ev W) (hlo : lo ≤ W.heap.size) (hv : Dw S wb W S' X) : Below lo W X := hv.gr.below hlo (fun k hk => by
  rcases hk with hk | rfl
  · exact (h.disk.low k hk).1
  · exact h.lwb)
theorem own_ltT {W : World} {base n size : Nat} {e : TypeId} {v : Value} {xs : List Value} {g : Nat} (h : W.ownsRow base e size v n xs) (hg : v.ownBlock = some g) : base ≤ g ∧ g < W.heap.size := by
  obtain ⟨q, cs, r⟩ := own_rowT h hg
  exact ⟨q, (Array.getElem?_eq_some_iff.1 r).1⟩
theorem CutS.grow (h : CutS lo S T ub db wb sum d D R E ev W) {sv rv : Value} (hr : W.heap[ub]? = some (wdRow db (some ⟨wb, 0, none⟩) sum sv rv (.slice none 0 0) (.slice none 0 0) false)) {L : List (Rec × Value)} (hL : L.map Prod.fst = R) (ho : W.ownsRow lo 38 2 rv R.length (rcV L)) (hvT : ∀ g, rv.ownBlock = some g → T g) (hx : ∀ x ∈ L, RcB W lo x ∧ ∀ g, x.2.ownBlock = some g → T g)
    {kd : Nat} {b : List Nat} {bv : Value} (hb : RcB W lo ((kd, b), bv)) (hbn : ∀ g, bv.ownBlock = some g → ¬ S g ∧ g ≠ wb ∧ g ≠ ub) {v' : Value} {w9 : World} (hg : W.grownBy w9 rv.ownBlock) (ho' : w9.ownsRow lo 38 2 v' (R.length + 1) (rcV L ++ [.int .u8 (kd : Int), bv])) (hat : v'.ownBlock = rv.ownBlock ∨ v'.ownBlock = some W.heap.size) (hlo : lo ≤ W.heap.size) :
    w9.heap[ub]? = some (wdRow db (some ⟨wb, 0, none⟩) sum sv rv (.slice none 0 0) (.slice none 0 0) false) ∧ (∃ T', CutS lo S T' ub db wb sum d D (R ++ [(kd, b)]) E ev (w9.setCell ⟨ub, 4, none⟩ v')) ∧ Below lo W (w9.setCell ⟨ub, 4, none⟩ v') := by
  have G : GrS (fun k => rv.ownBlock = some k) W w9 := .of_grown' hg (fun k e => e)
  have G' := grS_set w9 ub 4 v'
  have GU : GrS (fun k => rv.ownBlock = some k ∨ k = ub) W (w9.setCell ⟨ub, 4, none⟩ v') := (G.mono (fun _ _ e => .inl e)).trans (G'.mono (fun _ _ e => .inr e))
  have nS : ∀ k, rv.ownBlock = some k → ¬ S k ∧ k ≠ wb ∧ k ≠ ub := fun k e => ⟨(h.TS k (hvT k e)).1, (h.TS k (hvT k e)).2.1, (h.TS k (hvT k e)).2.2.1⟩
  have hr9 := (G.block ub (wd_lt hr) (fun e => (nS _ e).2.2 rfl)).trans hr
  have hS := h.disk.low
  have hwl := h.drw.lt
  have hul := wd_lt hr
  have hne : ∀ x ∈ L, ∀ g, x.2.ownBlock = some g → rv.ownBlock ≠ some g := fun x hxm g e e' => by
    obtain ⟨-, cs, r1⟩ := own_rowT (hx x hxm).1.own e
    obtain ⟨-, cs', r2⟩ := own_rowT ho e'
    rw [r1] at r2
    simp at r2
  have hnb : ∀ g, bv.ownBlock = some g → rv.ownBlock ≠ some g := fun g e e' => by
    obtain ⟨-, cs, r1⟩ := own_rowT hb.own e
    obtain ⟨-, cs', r2⟩ := own_rowT ho e'
    rw [r1] at r2
    simp at r2
  have hne2 : ∀ g, ev.ownBlock = some g → rv.ownBlock ≠ some g := fun g e e' => by
    obtain ⟨-, cs, r1⟩ := own_rowT h.ends e
    obtain ⟨-, cs', r2⟩ := own_rowT ho e'
    rw [r1] at r2
    simp at r2
  have hvn : ∀ g, v'.ownBlock = some g → ¬ S g ∧ g ≠ wb ∧ g ≠ ub := fun g e => by
    rcases hat with a | a
    · exact nS g (a ▸ e)
    · rw [a] at e
      obtain rfl := Option.some.inj e
      exact ⟨fun e => by have := (hS _ e).2; omega, by omega, by omega⟩
  refine ⟨hr9, ⟨fun k => T k ∨ bv.ownBlock = some k ∨ v'.ownBlock = some k, ⟨(h.disk.grS G (fun k hk e => (nS k e).1 hk)).grS G' (fun k hk e => h.nub (e ▸ hk)), h.bas, h.calm, (h.drw.grS G (fun e => (nS _ e).2.1 rfl)).grS G' h.ne, ⟨sv, v', heap_setCell_same _ _ 4 _ _ _ hr9, L ++ [((kd, b), bv)], by rw [List.map_append, hL]; rfl, ?_, fun g e => .inr (.inr e), fun x hxm => ?_⟩, GU.own h.ends (fun g e e' => e'.elim (hne2 g e) (fun e' => (h.TS g (h.eT g e)).2.2.1 e')), fun g e => .inl (h.eT g e), h.nwb, h.nub, h.ne, h.lwb, h.lub, fun k hk => ?_⟩⟩, GU.below hlo (fun k e => e.elim (fun e => (own_ltT ho e).1) (fun e => e ▸ h.lub))⟩
  · rw [rcV_snoc, List.length_append]
    exact G'.own ho' (fun g e e' => (hvn g e).2.2 e')
  · rcases List.mem_append.1 hxm with hxm | hxm
    · obtain ⟨p1, p2⟩ := hx x hxm
      exact ⟨⟨p1.kd, p1.byt, GU.own p1.own (fun g e e' => e'.elim (hne x hxm g e) (fun e' => (h.TS g (p2 g e)).2.2.1 e'))⟩, fun g e => .inl (p2 g e)⟩
    · rw [List.mem_singleton.1 hxm]
      exact ⟨⟨hb.kd, hb.byt, GU.own hb.own (fun g e e' => e'.elim (hnb g e) (fun e' => (hbn g e).2.2 e'))⟩, fun g e => .inr (.inl e)⟩
  · have hz := GU.size
    rcases hk with hk | hk | hk
    · obtain ⟨a, b, c, e, f⟩ := h.TS k hk
      exact ⟨a, b, c, e, by omega⟩
    · obtain ⟨a, b, c⟩ := hbn k hk
      obtain ⟨q1, q2⟩ := own_ltT hb.own hk
      exact ⟨a, b, c, q1, by omega⟩
    · obtain ⟨a, b, c⟩ := hvn k hk
      obtain ⟨q1, q2⟩ := own_ltT ho' hk
      exact ⟨a, b, c, q1, by rw [show (w9.setCell ⟨ub, 4, none⟩ v').heap.size = w9.heap.size by simp]; exact q2⟩
theorem CutS.tell (h : CutS lo S T ub db wb sum d D R E ev W) {r : Rec} {v' : Value} {w9 : World} (hg : W.grownBy w9 ev.ownBlock) (ho' : w9.ownsRow lo 3 1 v' (E.length + 1) (endV E ++ [.int .i64 (szR (E ++ [r]) : Int)])) (hat : v'.ownBlock = ev.ownBlock ∨ v'.ownBlock = some W.heap.size) (hlo : lo ≤ W.heap.size) :
    (∃ T', CutS lo S T' ub db wb sum d D R (E ++ [r]) v' w9) ∧ Below lo W w9 := by
  have G : GrS (fun k => ev.ownBlock = some k) W w9 := .of_grown' hg (fun k e => e)
  have nS : ∀ k, ev.ownBlock = some k → ¬ S k ∧ k ≠ wb ∧ k ≠ ub := fun k e => ⟨(h.TS k (h.eT k e)).1, (h.TS k (h.eT k e)).2.1, (h.TS k (h.eT k e)).2.2.1⟩
  obtain ⟨sv, rv, hr, L, hL, ho, hvT, hx⟩ := h.row
  have hS := h.disk.low
  have hwl := h.drw.lt
  have hul := wd_lt hr
  have n1 : ∀ (t : TypeId) (n size : Nat) (v : Value) (xs : List Value), t ≠ 3 → W.ownsRow lo t size v n xs → ∀ g, v.ownBlock = some g → ev.ownBlock ≠ some g := fun t n size v xs ht hv g e e' => by
    obtain ⟨-, cs, r1⟩ := own_rowT hv e
    obtain ⟨-, cs', r2⟩ := own_rowT h.ends e'
    rw [r1] at r2
    simp at r2
    exact ht r2.2
  have hvn : ∀ g, v'.ownBlock = some g → ¬ S g ∧ g ≠ wb ∧ g ≠ ub := fun g e => by
    rcases hat with a | a
    · exact nS g (a ▸ e)
    · rw [a] at e
      obtain rfl := Option.some.inj e
      exact ⟨fun e => by have := (hS _ e).2; omega, by omega, by omega⟩
  refine ⟨⟨fun k => T k ∨ v'.ownBlock = some k, ⟨h.disk.grS G (fun k hk e => (nS k e).1 hk), h.bas, h.calm, h.drw.grS G (fun e => (nS _ e).2.1 rfl), ⟨sv, rv, (G.block ub hul (fun e => (nS _ e).2.2 rfl)).trans hr, L, hL, G.own ho (n1 _ _ _ _ _ (by decide) ho), fun g e => .inl (hvT g e), fun x hxm => ⟨⟨(hx x hxm).1.kd, (hx x hxm).1.byt, G.own (hx x hxm).1.own (n1 _ _ _ _ _ (by decide) (hx x hxm).1.own)⟩, fun g e => .inl ((hx x hxm).2 g e)⟩⟩, by rw [endV_snoc, List.length_append]; exact ho', fun g e => .inr e, h.nwb, h.nub, h.ne, h.lwb, h.lub, fun k hk => ?_⟩⟩, G.below hlo (fun k e => (own_ltT h.ends e).1)⟩
  have hz := G.size
  rcases hk with hk | hk
  · obtain ⟨a, b, c, e, f⟩ := h.TS k hk
    exact ⟨a, b, c, e, by omega⟩
  · obtain ⟨a, b, c⟩ := hvn k hk
    obtain ⟨q1, q2⟩ := own_ltT ho' hk
    exact ⟨a, b, c, q1, q2⟩
end
end Go.Proofs.YtakcdgeanbpllaaGreatDoor.DJ


/- What DrawerCut asks of the cut and of the changed journal. -/
namespace Go.Proofs.YtakcdgeanbpllaaGreatDoor.DJ
open Go.RowKit

theorem szR_18 (R : List Rec) : 18 ≤ szR R := Nat.le_add_right _ _
theorem cut_place {R : List Rec} {m n : Nat} (hm : m < szR R) (hn : n ≤ R.length) (h1 : 0 < n → szR (R.take n) ≤ m) (h2 : ¬ (n < R.length ∧ szR (R.take (n + 1)) ≤ m)) :
    (m < 18 → n = 0) ∧ (18 ≤ m → ∃ h : n < R.length, szR (R.take n) ≤ m ∧ m < szR (R.take n) + (R[n].2.length + 18)) := by
  have h18 := szR_18 (R.take n)
  refine ⟨fun h => ?_, fun h => ?_⟩
  · by_cases h0 : 0 < n
    · have := h1 h0; omega
    · omega
  · have hz : szR (R.take n) ≤ m := by
      by_cases h0 : 0 < n
      · exact h1 h0
      · obtain rfl : n = 0 := by omega
        exact h
    have hlt : n < R.length := by
      by_cases hl : n < R.length
      · exact hl
      · rw [List.take_of_length_le (by omega)] at hz
        omega
    refine ⟨hlt, hz, ?_⟩
    have := szR_take R hlt
    have : ¬ szR (R.take (n + 1)) ≤ m := fun h => h2 ⟨hlt, h⟩
    omega
theorem cut_gives {sum : Nat} {R : List Rec} {m n : Nat} (hg : Good sum [] R) (hm : m < szR R) (hn : n ≤ R.length) (h1 : 0 < n → szR (R.take n) ≤ m) (h2 : ¬ (n < R.length ∧ szR (R.take (n + 1)) ≤ m)) :
    Gives (one ((enc sum [] R).take m)) sum [] (R.take (if decide (m < 18) then 0 else n)) := by
  obtain ⟨p1, p2⟩ := cut_place hm hn h1 h2
  have hl : ((enc sum [] R).take m).length = m := by rw [List.length_take, enc_sz]; omega
  by_cases h : m < 18
  · rw [decide_eq_true h, if_pos rfl]
    exact cut_first hg.sum (calm_one _) h rfl
  · rw [decide_eq_false h]
    simp only [Bool.false_eq_true, if_false]
    obtain ⟨q1, q2, q3⟩ := p2 (by omega)
    exact cut_later hg (calm_one _) q1 (by rw [enc_sz]; exact q2) (by rw [enc_sz]; exact q3) (by unfold one; rw [hl])
theorem turn_gives {sum : Nat} {R : List Rec} {m n x y : Nat} (hg : Good sum [] R) (hby : ∀ r ∈ R, r.1 < 256 ∧ ∀ b ∈ r.2, b < 256) (hm : m < szR R) (hn : n ≤ R.length) (h1 : 0 < n → szR (R.take n) ≤ m) (h2 : ¬ (n < R.length ∧ szR (R.take (n + 1)) ≤ m))
    {st : Nat} (hst : st = if 0 < n then szR (R.take n) else if 18 ≤ m then 18 else 0) (h9 : m < st + 9 ∨ st + 13 ≤ m) (hx : (enc sum [] R)[m]? = some x) (hy : y < 256) (hxy : x ≠ y) :
    Gives (one ((enc sum [] R).set m y)) sum [] (R.take (if decide (m < 18) then 0 else n)) := by
  obtain ⟨p1, p2⟩ := cut_place hm hn h1 h2
  by_cases h : m < 18
  · rw [decide_eq_true h, if_pos rfl]
    have := p1 h
    subst this
    rw [if_neg (by omega), if_neg (by omega)] at hst
    subst hst
    exact turn_first hg.sum (calm_one _) h (by omega) hx hy hxy rfl
  · rw [decide_eq_false h]
    simp only [Bool.false_eq_true, if_false]
    obtain ⟨q1, q2, q3⟩ := p2 (by omega)
    have hs : st = szR (R.take n) := by
      rw [hst]
      split
      · rfl
      · obtain rfl : n = 0 := by omega
        rw [if_pos (by omega)]
        rfl
    subst hs
    exact turn_later hg hby (calm_one _) q1 (by rw [enc_sz]; exact q2) (by rw [enc_sz]; exact q3) (by rw [enc_sz]; exact h9) hx hy hxy (by unfold one; rw [List.length_set])
theorem byts_turn {W : World} {g : Nat} {E : List Nat} {m y : Nat} (h : Byts W (some ⟨g, 0, none⟩) E) (hm : m < E.length) (hy : y < 256) : Byts (W.setCell ⟨g, m, none⟩ (.int .u8 (y : Int))) (some ⟨g, 0, none⟩) (E.set m y) := by
  obtain ⟨h0, rfl | ⟨b, off, e, hlt, hc⟩⟩ := h
  · simp at hm
  · cases e
    refine ⟨fun x hx => ?_, .inr ⟨g, 0, rfl, by simpa using hlt, fun i hi => ?_⟩⟩
    · rcases List.mem_or_eq_of_mem_set hx with hx | rfl
      · exact h0 x hx
      · exact hy
    · rw [List.length_set] at hi
      by_cases him : i = m
      · subst him
        rw [List.getElem_set_self, Nat.zero_add]
        have := hc _ hm
        rw [Nat.zero_add] at this
        apply World.cell?_setCell_same
        exact this
      · rw [List.getElem_set_ne (fun e => him e.symm), Nat.zero_add]
        have := hc i hi
        rw [Nat.zero_add] at this
        rw [World.cell?_setCell_other]
        · exact this
        · intro e
          injection e with e1 e2
          exact him e2.symm
theorem turn_byte {x q : Nat} (hq : q < 255) : ∃ y : Nat, IntKind.u8.wrap ((x : Int) + IntKind.u8.wrap (IntKind.i64.wrap (1 + (q : Int)))) = (y : Int) ∧ y < 256 ∧ x ≠ y := by
  have h1 : IntKind.i64.wrap (1 + (q : Int)) = 1 + (q : Int) := by rw [IntKind.wrap_i64]; omega
  have h2 : IntKind.u8.wrap (1 + (q : Int)) = 1 + (q : Int) := by rw [IntKind.wrap_u8]; omega
  rw [h1, h2, IntKind.wrap_u8]
  exact ⟨(x + (1 + q)) % 256, by omega, by omega, by omega⟩
theorem fit_of {dat : List Nat} (hl : dat.length ≤ 2097152) (hb : ∀ x ∈ dat, x < 256) : Fit ⟨Nm 1, dat, dat.length⟩ := ⟨named_Nm 1, hl, Nat.le_refl _, hb⟩
end Go.Proofs.YtakcdgeanbpllaaGreatDoor.DJ


/- DrawerCut. -/
namespace Go.Proofs.YtakcdgeanbpllaaGreatDoor.DJ
open Go.RowKit
set_option linter.constructorNameAsVariable false

/-- Bodies in memory. -/
def BbAt (w : World) (a : Option Addr) (bs : List (List Nat)) : Prop := bs = [] ∨ ∃ b off, a = some ⟨b, off, none⟩ ∧ b < w.heap.size ∧ ∀ i (h : i < bs.length), ∃ p c, w.cell? ⟨b, off + i, none⟩ = some (.slice p bs[i].length c) ∧ (p = none → c = 0) ∧ bs[i].length ≤ c ∧ Byts w p bs[i]
theorem BbAt.later {w w' : World} {a : Option Addr} {L : List (List Nat)} (h : BbAt w a L) (hb : Below w.heap.size w w') : BbAt w' a L := by
  rcases h with h | ⟨b, off, ha, hlt, hc⟩
  · exact .inl h
  · refine .inr ⟨b, off, ha, Nat.lt_of_lt_of_le hlt hb.size, fun i hi => ?_⟩
    obtain ⟨p, c, h2, h3, h4, h5⟩ := hc i hi
    exact ⟨p, c, (hb.cell (p := ⟨b, off + i, none⟩) hlt).trans h2, h3, h4, h5.later hb⟩
theorem slice_to0 (a : Option Addr) (n cap k : Nat) (hk : k ≤ cap) : ∀ X, (Instr.slice 23 (.slice a n cap) none (some (.int .i64 (k : Int))) none).run Tryz.prog X = .ok (.slice a k cap) X := fun X => by
  rw [run_slice_h _ _ _ _ _ under_u8 .i64 (k : Int) (by omega) (by omega), size_u8, Result.andThen_ok, sliced, Int.toNat_natCast]
  congr 2
  split
  · rfl
  · cases a with
    | none => rfl
    | some p => simp [Addr.add]
theorem cut_put {lo : Nat} {S T : Nat → Prop} {ub db wb sum : Nat} {d : Dk} {D R E : List Rec} {ev : Value} {W : World} (h : CutS lo S T ub db wb sum d D R E ev W) (hsum : sum < 4294967296) (hn : D.length + 1 < 4294967296) (hz : szR D ≤ 1000000) (hlo : lo ≤ W.heap.size) (ht : TabL lo W) (kind : Nat) (hk : kind < 256) (bs : List Nat) (hlen : bs.length ≤ 300) (X : World) (hX : Below W.heap.size W X) (a : Option Addr) (c : Nat) (hc : a = none → c = 0) (hN : Byts X a bs) :
    Calls Tryz.prog 12 #[.pointer (some ⟨wb, 0, none⟩), .agg #[.int .u8 (kind : Int), .slice a bs.length c]] X fun e X' => e = .returned (.int .i64 0) ∧ (∃ S' d', CutS lo S' T ub db wb sum d' (D ++ [(kind, bs)]) R E ev X') ∧ Below lo W X' := by
  have hR := h.later hX
  obtain ⟨d', hd, hB, hC⟩ := put_cut (r := (kind, bs)) h.bas h.calm hlen hz
  refine (put_any (g := 1) (by decide) hsum hn kind hk bs (by omega) a c hc X (Nat.le_trans hlo hX.size) (ht.next (hX.mono hlo)) hN hR.drw h.nwb h.lwb hR.disk).mono ?_
  rintro e X' ⟨rfl, S', h1, h2, h3⟩
  rw [hd] at h1 h2 ⊢
  exact ⟨rfl, ⟨S', d', hR.put h1 h2 h3 hB hC⟩, (hX.mono hlo).trans (hR.bel (Nat.le_trans hlo hX.size) h3)⟩
theorem infoInt : (Tryz.prog.info? 3).map (fun i => (i.zero, i.size, i.bytes)) = some (some (.int .i64 0), 1, 8) := by kernel_rfl
theorem Fresh.cut {lo : Nat} {S : Nat → Prop} {ub db wb sum : Nat} {d : Dk} {W : World} (h : Fresh lo S ub db wb sum d W) (hB : Base sum [] [] 1 d.fs) (hC : Calm d) : CutS lo S (fun _ => False) ub db wb sum d [] [] [] (.slice none 0 0) W := by
  obtain ⟨a, c, hr⟩ := h.row
  exact ⟨h.disk, hB, hC, h.drw, ⟨_, _, hr, RcX.nil _ _ _⟩, World.ownsRow_nil _ _ _ _, fun g e => (by cases e), h.nwb, h.nub, h.ne, h.lwb, h.lub, fun k e => e.elim⟩

/-- The place without its sign. -/
def cutA (a : Int) : Int := if a < 0 then -(a + 1) else a
theorem cutA_ok {a : Int} (h : -9223372036854775808 ≤ a ∧ a ≤ 9223372036854775807) : 0 ≤ cutA a ∧ cutA a ≤ 9223372036854775807 := by
  unfold cutA
  split <;> omega
end Go.Proofs.YtakcdgeanbpllaaGreatDoor.DJ

import Derived.Test.YtakcdgeanbpllaaGreatDoorJoin47
import Derived.Test.YtakcdgeanbpllaaGreatDoorJoin45
import Derived.Test.YtakcdgeanbpllaaGreatDoorJoin44
/- Open. -/
namespace Go.Proofs.YtakcdgeanbpllaaGreatDoor.DJ
open Go.RowKit

theorem Rd.le {sum : Nat} {b : List Nat} {k : Nat} {l : List Rec} {n : Nat} (h : Rd sum b k l n) : n ≤ b.length := by
  induction h with
  | stop _ => exact Nat.zero_le _
  | more hw _ ih =>
    have := (whole_len hw).1
    rw [List.length_drop] at ih
    omega
theorem recs_le (sum : Nat) (b : List Nat) (k : Nat) : (recs sum b k).2 ≤ b.length := (recsF_rd sum b.length b k (Nat.le_refl _)).le
theorem Rd.cnt {sum : Nat} {b : List Nat} {k : Nat} {l : List Rec} {n : Nat} (h : Rd sum b k l n) : l.length ≤ n := by
  induction h with
  | stop _ => exact Nat.zero_le _
  | more hw _ ih => rw [List.length_cons]; omega
theorem recs_cnt (sum : Nat) (b : List Nat) (k : Nat) : (recs sum b k).1.length ≤ b.length := Nat.le_trans (recsF_rd sum b.length b k (Nat.le_refl _)).cnt (recs_le sum b k)

/-- What Open answers. -/
def OpP (lo db : Nat) (S : Nat → Prop) (d : Dk) (sum : Nat) (w : World) (e : Ending) (w' : World) : Prop :=
  ∃ S', DiskAt w' lo S' db (openD d sum).2.2 ∧ Dv S w S' w' ∧ match (openD d sum).2.1 with
    | none => e = .returned (.tuple #[.pointer none, .slice none 0 0, .slice none 0 0, .int .i64 ((openD d sum).1 : Nat)]) ∧ (openD d sum).1 ≠ 0
    | some (g, s, R) => ∃ wb sa sc ra rc, e = .returned (.tuple #[.pointer (some ⟨wb, 0, none⟩), .slice sa s.length sc, .slice ra R.length rc, .int .i64 0]) ∧ (openD d sum).1 = 0 ∧ w.heap.size ≤ wb ∧ DwAt w' wb db sum g R.length false ∧ ¬ S' wb ∧ w'.ownsRow w.heap.size 5 1 (.slice sa s.length sc) s.length (bysV s) ∧ RcO w' w.heap.size (.slice ra R.length rc) R

theorem op_ret {Q : Ending → World → Prop} {tmps : Array Value} {X : World} {a b c d : Value} (h4 : tmps.getD 4 undef = a) (h5 : tmps.getD 5 undef = b) (h6 : tmps.getD 6 undef = c) (h7 : tmps.getD 7 undef = d) (hP : Q (.returned (.tuple #[a, b, c, d])) X) : bodyPost Tryz.prog Tryz.f24 Q Exit.ret { tmps := tmps, defers := [] } X := by
  refine bodyPost_ret (v := .tuple #[a, b, c, d]) ?_ rfl hP
  subst h4 h5 h6 h7
  simp [results, Tryz.results24, go_sem]

set_option maxRecDepth 4000 in
set_option maxHeartbeats 2000000 in
theorem open_down {lo db : Nat} {S : Nat → Prop} {d : Dk} (sum : Nat) (hd : d.down = true) (w : World) (h : DiskAt w lo S db d) :
    Calls Tryz.prog 24 #[.pointer (some ⟨db, 0, none⟩), .int .u32 (sum : Int)] w (OpP lo db S d sum w) := by
  have hO : openD d sum = (190, none, d) := by unfold openD; rw [hd]; rfl
  have hP : Hid (OpP lo db S d sum w (.returned (.tuple #[.pointer none, .slice none 0 0, .slice none 0 0, .int .i64 190])) w) := ⟨S, by rw [hO]; exact h, .refl _ _, by rw [hO]; exact ⟨rfl, fun e => by cases e⟩⟩
  obtain ⟨mb, D, fb, vv, hL⟩ := h
  have k5 : w.cell? ⟨db, 5, none⟩ = some (.bool true) := by rw [cell_of_row _ _ 5 _ _ _ hL.row, hd]; rfl
  have hnil : ∀ W : World, (binOp BinOp.eql 27 (.pointer (some ⟨db, 0, none⟩)) (.pointer none)).run Tryz.prog W = .ok (.bool false) W := fun _ => rfl
  go_enter Tryz.func24, Tryz.ntmps24
  go_wp2
  exact op_ret rfl rfl rfl rfl hP.out

set_option maxRecDepth 4000 in
set_option maxHeartbeats 2000000 in
theorem open_new {lo db : Nat} {S : Nat → Prop} {d : Dk} (sum : Nat) (hsum : sum < 4294967296) (hd : d.down = false) (hb : best d.fs = none) (hall : ∀ f ∈ d.fs, ∃ k, k ≤ 99999999 ∧ f.nm = Nm k) (w : World) (hlo : lo ≤ w.heap.size) (ht : TabL lo w) (h : DiskAt w lo S db d) :
    Calls Tryz.prog 24 #[.pointer (some ⟨db, 0, none⟩), .int .u32 (sum : Int)] w (OpP lo db S d sum w) := by
  have hN := newest_any hall w h
  have hSl := h.low
  have hO : openD d sum = if (newR d sum).1 ≠ 0 then ((newR d sum).1, none, (newR d sum).2) else (0, some (1, [], []), (newR d sum).2) := by unfold openD newR; rw [hd, hb]; rfl
  have hbl : lastGood d.fs = none := by
    obtain ⟨mb, D, fb, vv, hL⟩ := h
    rw [← best_eq hL.ok.srt]; exact hb
  have k5 : w.cell? ⟨db, 5, none⟩ = some (.bool false) := by
    obtain ⟨mb, D, fb, vv, hL⟩ := h
    rw [cell_of_row _ _ 5 _ _ _ hL.row, hd]; rfl
  have hnil : ∀ W : World, (binOp BinOp.eql 27 (.pointer (some ⟨db, 0, none⟩)) (.pointer none)).run Tryz.prog W = .ok (.bool false) W := fun _ => rfl
  have hSt := fun X wb (hX : Below w.heap.size w X) (hwb : w.heap.size ≤ wb) (hw : DwAt X wb db sum 0 0 false) => settle_none hsum 0 hall X (Nat.le_trans hlo hX.size) (ht.next (hX.mono hlo)) hw (fun e => by have := (hSl _ e).2; omega) (Nat.le_trans hlo hwb) (h.later hX)
  obtain ⟨r, hr⟩ : ∃ r, newR d sum = r := ⟨_, rfl⟩
  rw [hr] at hO
  simp only [hr] at hSt
  replace hSt := Hid.mk hSt
  go_enter Tryz.func24, Tryz.ntmps24
  go_wp2_with (go_at_call 49; refine hN.mono ?_; rintro e w1 ⟨hb1, hm1⟩; rw [hbl] at hm1; subst hm1)
  have bA := hb1.alloc hb1.size (.cells #[.int .u32 0, .slice none 0 0, .slice none 0 0, .int .i64 0] 123)
  have bB := bA.alloc bA.size (.cells #[.pointer (some ⟨db, 0, none⟩), .int .u32 (sum : Int), .int .i64 0, .int .i64 0, .bool false] 80)
  have rj := heap_new w1 (.cells #[.int .u32 0, .slice none 0 0, .slice none 0 0, .int .i64 0] 123)
  have rw' := heap_new (w1.alloc (.cells #[.int .u32 0, .slice none 0 0, .slice none 0 0, .int .i64 0] 123)) (.cells #[.pointer (some ⟨db, 0, none⟩), .int .u32 (sum : Int), .int .i64 0, .int .i64 0, .bool false] 80)
  rw [World.size_alloc] at rw'
  have rj' := (Below.heap_alloc (w1.alloc (.cells #[.int .u32 0, .slice none 0 0, .slice none 0 0, .int .i64 0] 123)) (.cells #[.pointer (some ⟨db, 0, none⟩), .int .u32 (sum : Int), .int .i64 0, .int .i64 0, .bool false] 80) w1.heap.size (by simp)).trans rj
  generalize (w1.alloc (.cells #[.int .u32 0, .slice none 0 0, .slice none 0 0, .int .i64 0] 123)).alloc (.cells #[.pointer (some ⟨db, 0, none⟩), .int .u32 (sum : Int), .int .i64 0, .int .i64 0, .bool false] 80) = w2 at *
  have hw1l := hb1.size
  refine (hSt.out w2 (w1.heap.size + 1) bB (by omega) rw').mono ?_
  rintro e w3 ⟨rfl, S3, hD3, hv3, hw3⟩
  have hjl : w1.heap.size < w2.heap.size := (Array.getElem?_eq_some_iff.1 rj').1
  have hwl : w1.heap.size + 1 < w2.heap.size := (Array.getElem?_eq_some_iff.1 rw').1
  have rj3 := (hv3.gr.block w1.heap.size hjl (fun e => by
    rcases e with e | e
    · have := (hSl _ e).2; omega
    · omega)).trans rj'
  have j1 := cell_of_row _ _ 1 _ _ _ rj3
  have j2 := cell_of_row _ _ 2 _ _ _ rj3
  simp only [List.getElem?_toArray, List.getElem?_cons_zero, List.getElem?_cons_succ] at j1 j2
  have hDv : Dv S w S3 w3 := ⟨⟨hv3.gr.os.trans bB.os, hv3.gr.tape.trans bB.tape, hv3.gr.output.trans bB.output, Nat.le_trans bB.size hv3.gr.size, fun k hk hn => (hv3.gr.block k (Nat.lt_of_lt_of_le hk bB.size) (fun e => by
      rcases e with e | e
      · exact hn e
      · omega)).trans (bB.block k hk)⟩, fun k hk => by
      rcases hv3.sub k hk with e | e
      · exact .inl e
      · exact .inr (Nat.le_trans bB.size e)⟩
  have hnS : ¬ S3 (w1.heap.size + 1) := fun e => by
    rcases hv3.sub _ e with e | e
    · have := (hSl _ e).2; omega
    · omega
  by_cases h0 : r.1 = 0
  · have h0' : ((r.1 : Int) != 0) = false := by rw [h0]; rfl
    rw [if_neg (fun x => x h0)] at hO
    have hP : ∀ m, Hid (OpP lo db S d sum w (.returned (.tuple #[.pointer (some ⟨w1.heap.size + 1, 0, none⟩), .slice none 0 0, .slice none 0 0, .int .i64 0])) (w3.drewN m)) := fun m => ⟨S3, by rw [hO]; exact hD3.later (below_drewN (Below.refl _ _) _), Dv.trans hDv (.below (below_drewN (Below.refl _ _) _)), by
      rw [hO]
      exact ⟨w1.heap.size + 1, none, 0, none, 0, rfl, rfl, by omega, (hw3 h0).later (below_drewN (Below.refl _ _) _), hnS, World.ownsRow_nil _ _ _ _, .nil _ _⟩⟩
    clear hw3 hD3 hv3 hDv rj3 rj rj' rw' hN hSt hO h0
    go_wp2_with fail
    go_quiet (fail)
    go_wp2
    exact op_ret rfl rfl rfl rfl (hP _).out
  · have h0' : ((r.1 : Int) != 0) = true := by rw [bne_iff_ne]; omega
    rw [if_pos h0] at hO
    have hP : Hid (OpP lo db S d sum w (.returned (.tuple #[.pointer none, .slice none 0 0, .slice none 0 0, .int .i64 (r.1 : Nat)])) w3) := ⟨S3, by rw [hO]; exact hD3, hDv, by rw [hO]; exact ⟨rfl, h0⟩⟩
    clear hw3 hD3 hv3 hDv rj3 rj rj' rw' hN hSt hO h0
    go_wp2
    exact op_ret rfl rfl rfl rfl hP.out
end Go.Proofs.YtakcdgeanbpllaaGreatDoor.DJ


/- Open, of a journal. -/
namespace Go.Proofs.YtakcdgeanbpllaaGreatDoor.DJ
open Go.RowKit

set_option maxRecDepth 4000 in
set_option maxHeartbeats 2000000 in
theorem open_old {lo db : Nat} {S : Nat → Prop} {d : Dk} (sum : Nat) (hsum : sum < 4294967296) (hd : d.down = false) {f : Fl} (hb : best d.fs = some f) (hall : ∀ f ∈ d.fs, ∃ k, k ≤ 99999999 ∧ f.nm = Nm k) (w : World) (hlo : lo ≤ w.heap.size) (ht : TabL lo w) (h : DiskAt w lo S db d) :
    Calls Tryz.prog 24 #[.pointer (some ⟨db, 0, none⟩), .int .u32 (sum : Int)] w (OpP lo db S d sum w) := by
  have hN := newest_any hall w h
  have hSl := h.low
  have hbl : lastGood d.fs = some f := by
    obtain ⟨mb, D, fb, vv, hL⟩ := h
    rw [← best_eq hL.ok.srt]; exact hb
  obtain ⟨hfm, hfg, hfw⟩ := lastGood_mem hbl
  obtain ⟨hg0, hg1, hg9⟩ := genOf_pos hfg
  obtain ⟨g, hg⟩ : ∃ g, genOf f.nm = g := ⟨_, rfl⟩
  rw [hg] at hg0 hg1 hg9
  obtain ⟨⟨s, k, bd⟩, hw0⟩ := Option.isSome_iff_exists.1 hfw
  have hwl := whole_len hw0
  have hdl : f.dat.length ≤ 2097152 := by
    obtain ⟨mb, D, fb, vv, hL⟩ := h
    exact hL.ok.siz f hfm
  have k5 : w.cell? ⟨db, 5, none⟩ = some (.bool false) := by
    obtain ⟨mb, D, fb, vv, hL⟩ := h
    rw [cell_of_row _ _ 5 _ _ _ hL.row, hd]; rfl
  have hnil : ∀ W : World, (binOp BinOp.eql 27 (.pointer (some ⟨db, 0, none⟩)) (.pointer none)).run Tryz.prog W = .ok (.bool false) W := fun _ => rfl
  have hgI : (0 : Int) < (g : Int) := by omega
  have hsz : 18 + bd.length + (recs s (f.dat.drop (18 + bd.length)) 1).2 ≤ f.dat.length := by
    have := recs_le s (f.dat.drop (18 + bd.length)) 1
    rw [List.length_drop] at this
    omega
  have hO : openD d sum = if s ≠ sum then (198, none, d) else if (mend d f (18 + bd.length + (recs s (f.dat.drop (18 + bd.length)) 1).2)).1 ≠ 0 then ((mend d f (18 + bd.length + (recs s (f.dat.drop (18 + bd.length)) 1).2)).1, none, (mend d f (18 + bd.length + (recs s (f.dat.drop (18 + bd.length)) 1).2)).2) else (0, some (g, bd, (recs s (f.dat.drop (18 + bd.length)) 1).1), (mend d f (18 + bd.length + (recs s (f.dat.drop (18 + bd.length)) 1).2)).2) := by
    unfold openD
    rw [hd, hb]
    simp only [hw0, hg, Bool.false_eq_true, if_false]
    by_cases e : s = sum
    · subst e; rfl
    · rw [if_pos e, if_pos e]
  have hSt := fun X wb n (hX : Below w.heap.size w X) (hwb : w.heap.size ≤ wb) (hw : DwAt X wb db sum g n false) => settle_some hg1 hg9 hfm hg0 _ hsz hall X (Nat.le_trans hlo hX.size) (ht.next (hX.mono hlo)) hw (fun e => by have := (hSl _ e).2; omega) (h.later hX)
  obtain ⟨n, hn⟩ : ∃ n, 18 + bd.length + (recs s (f.dat.drop (18 + bd.length)) 1).2 = n := ⟨_, rfl⟩
  obtain ⟨R, hR⟩ : ∃ R, (recs s (f.dat.drop (18 + bd.length)) 1).1 = R := ⟨_, rfl⟩
  obtain ⟨r, hr⟩ : ∃ r, mend d f n = r := ⟨_, rfl⟩
  simp only [hn, hR, hr] at hO hSt
  have hNw : Hid (∀ e X, NwP d.fs w e X → ∃ sa sc ra rc, e = .returned (.tuple #[.int .i64 (g : Int), .agg #[.int .u32 (s : Int), .slice sa bd.length sc, .slice ra R.length rc, .int .i64 (n : Int)]]) ∧ Below w.heap.size w X ∧ X.ownsRow w.heap.size 5 1 (.slice sa bd.length sc) bd.length (bysV bd) ∧ RcO X w.heap.size (.slice ra R.length rc) R) := ⟨fun e X hX => by
    obtain ⟨hb1, hm⟩ := hX
    rw [hbl] at hm
    obtain ⟨s', k', bd', sv, rv, hw', he, ho, hrc⟩ := hm
    rw [hw0] at hw'
    cases hw'
    rw [hn, hg] at he
    rw [hR] at hrc
    obtain ⟨sa, sc, rfl⟩ := own_lenB ho
    obtain ⟨ra, rc, rfl, -, -, -⟩ := hrc.len
    exact ⟨sa, sc, ra, rc, he, hb1, ho, hrc⟩⟩
  have hRl : R.length ≤ 2097152 := by
    rw [← hR]
    have := recs_cnt s (f.dat.drop (18 + bd.length)) 1
    rw [List.length_drop] at this
    omega
  replace hSt := Hid.mk hSt
  replace hO := Hid.mk hO
  clear hn hR hr hsz hfg hfw hg hbl hb hall ht hw0 hwl hdl
  by_cases hss : s = sum
  case neg =>
    have hss' : ((s : Int) != (sum : Int)) = true := by rw [bne_iff_ne]; omega
    have hP : ∀ X, Below w.heap.size w X → Hid (OpP lo db S d sum w (.returned (.tuple #[.pointer none, .slice none 0 0, .slice none 0 0, .int .i64 198])) X) := fun X hX => ⟨S, by rw [hO.out, if_pos hss]; exact h.later hX, .below hX, by rw [hO.out, if_pos hss]; exact ⟨rfl, fun e => by cases e⟩⟩
    clear hss hSt
    go_enter Tryz.func24, Tryz.ntmps24
    go_wp2_with (go_at_call 49; refine hN.mono ?_; intro e w1 hm1; obtain ⟨sa, sc, ra, rc, rfl, hb1, ho1, hr1⟩ := hNw.out _ _ hm1; clear hm1)
    exact op_ret rfl rfl rfl rfl (hP _ (hb1.alloc hb1.size _)).out
  subst hss
  have hss' : ((s : Int) != (s : Int)) = false := by simp
  go_enter Tryz.func24, Tryz.ntmps24
  go_wp2_with (go_at_call 49; refine hN.mono ?_; intro e w1 hm1; obtain ⟨sa, sc, ra, rc, rfl, hb1, ho1, hr1⟩ := hNw.out _ _ hm1; clear hm1)
  have bA := hb1.alloc hb1.size (.cells #[.int .u32 (s : Int), .slice sa bd.length sc, .slice ra R.length rc, .int .i64 (n : Int)] 123)
  have bB := bA.alloc bA.size (.cells #[.pointer (some ⟨db, 0, none⟩), .int .u32 (s : Int), .int .i64 (g : Int), .int .i64 (R.length : Int), .bool false] 80)
  have rj := heap_new w1 (.cells #[.int .u32 (s : Int), .slice sa bd.length sc, .slice ra R.length rc, .int .i64 (n : Int)] 123)
  have rw' := heap_new (w1.alloc (.cells #[.int .u32 (s : Int), .slice sa bd.length sc, .slice ra R.length rc, .int .i64 (n : Int)] 123)) (.cells #[.pointer (some ⟨db, 0, none⟩), .int .u32 (s : Int), .int .i64 (g : Int), .int .i64 (R.length : Int), .bool false] 80)
  rw [World.size_alloc] at rw'
  have rj' := (Below.heap_alloc (w1.alloc (.cells #[.int .u32 (s : Int), .slice sa bd.length sc, .slice ra R.length rc, .int .i64 (n : Int)] 123)) (.cells #[.pointer (some ⟨db, 0, none⟩), .int .u32 (s : Int), .int .i64 (g : Int), .int .i64 (R.length : Int), .bool false] 80) w1.heap.size (by simp)).trans rj
  have b12 : Below w1.heap.size w1 ((w1.alloc (.cells #[.int .u32 (s : Int), .slice sa bd.length sc, .slice ra R.length rc, .int .i64 (n : Int)] 123)).alloc (.cells #[.pointer (some ⟨db, 0, none⟩), .int .u32 (s : Int), .int .i64 (g : Int), .int .i64 (R.length : Int), .bool false] 80)) := ((Below.refl _ _).alloc (Nat.le_refl _) _).alloc (by simp) _
  generalize (w1.alloc (.cells #[.int .u32 (s : Int), .slice sa bd.length sc, .slice ra R.length rc, .int .i64 (n : Int)] 123)).alloc (.cells #[.pointer (some ⟨db, 0, none⟩), .int .u32 (s : Int), .int .i64 (g : Int), .int .i64 (R.length : Int), .bool false] 80) = w2 at *
  have hw1l := hb1.size
  refine (hSt.out w2 (w1.heap.size + 1) R.length bB (by omega) rw').mono ?_
  rintro e w3 ⟨rfl, S3, hD3, hv3⟩
  have hjl : w1.heap.size < w2.heap.size := (Array.getElem?_eq_some_iff.1 rj').1
  have hwl : w1.heap.size + 1 < w2.heap.size := (Array.getElem?_eq_some_iff.1 rw').1
  have hnot : ∀ x, w.heap.size ≤ x → ¬ S x := fun x hx e => by have := (hSl _ e).2; omega
  have rj3 := (hv3.gr.block w1.heap.size hjl (hnot _ hw1l)).trans rj'
  have j1 := cell_of_row _ _ 1 _ _ _ rj3
  have j2 := cell_of_row _ _ 2 _ _ _ rj3
  simp only [List.getElem?_toArray, List.getElem?_cons_zero, List.getElem?_cons_succ] at j1 j2
  have hDv : Dv S w S3 w3 := Dv.trans (.below bB) hv3
  have hnS : ¬ S3 (w1.heap.size + 1) := fun e => by
    rcases hv3.sub _ e with e | e
    · exact hnot _ (by omega) e
    · omega
  have hw3 : DwAt w3 (w1.heap.size + 1) db s g R.length false := (hv3.gr.block _ hwl (hnot _ (by omega))).trans rw'
  have ho3 := hv3.gr.own (own_later ho1 b12) (fun x hx => hnot x (own_rowT ho1 hx).1)
  have hr3 := (hr1.later b12).grS hv3.gr (fun x _ _ hx _ _ => hnot x hx)
  have hO2 := hO.out
  rw [if_neg (fun x => x rfl)] at hO2
  by_cases h0 : r.1 = 0
  · have h0' : ((r.1 : Int) != 0) = false := by rw [h0]; rfl
    rw [if_neg (fun x => x h0)] at hO2
    have hP : ∀ m, Hid (OpP lo db S d s w (.returned (.tuple #[.pointer (some ⟨w1.heap.size + 1, 0, none⟩), .slice sa bd.length sc, .slice ra R.length rc, .int .i64 0])) (w3.drewN m)) := fun m => ⟨S3, by rw [hO2]; exact hD3.later (below_drewN (Below.refl _ _) _), Dv.trans hDv (.below (below_drewN (Below.refl _ _) _)), by
      rw [hO2]
      exact ⟨w1.heap.size + 1, sa, sc, ra, rc, rfl, rfl, by omega, hw3.later (below_drewN (Below.refl _ _) _), hnS, own_later ho3 (below_drewN (Below.refl _ _) _), hr3.later (below_drewN (Below.refl _ _) _)⟩⟩
    clear hw3 hD3 hv3 hDv rj3 rj rj' rw' hN hSt hO hO2 h0 ho3 hr3 ho1 hr1 hNw
    go_wp2_with fail
    go_quiet (fail)
    go_wp2
    exact op_ret rfl rfl rfl rfl (hP _).out
  · have h0' : ((r.1 : Int) != 0) = true := by rw [bne_iff_ne]; omega
    rw [if_pos h0] at hO2
    have hP : Hid (OpP lo db S d s w (.returned (.tuple #[.pointer none, .slice none 0 0, .slice none 0 0, .int .i64 (r.1 : Nat)])) w3) := ⟨S3, by rw [hO2]; exact hD3, hDv, by rw [hO2]; exact ⟨rfl, h0⟩⟩
    clear hw3 hD3 hv3 hDv rj3 rj rj' rw' hN hSt hO hO2 h0 ho3 hr3 ho1 hr1 hNw
    go_wp2
    exact op_ret rfl rfl rfl rfl hP.out

theorem open_any {lo db : Nat} {S : Nat → Prop} {d : Dk} (sum : Nat) (hsum : sum < 4294967296) (hall : ∀ f ∈ d.fs, ∃ k, k ≤ 99999999 ∧ f.nm = Nm k) (w : World) (hlo : lo ≤ w.heap.size) (ht : TabL lo w) (h : DiskAt w lo S db d) :
    Calls Tryz.prog 24 #[.pointer (some ⟨db, 0, none⟩), .int .u32 (sum : Int)] w (OpP lo db S d sum w) := by
  cases hd : d.down with
  | true => exact open_down sum hd w h
  | false =>
    cases hb : best d.fs with
    | none => exact open_new sum hsum hd hb hall w hlo ht h
    | some f => exact open_old sum hsum hd hb hall w hlo ht h
end Go.Proofs.YtakcdgeanbpllaaGreatDoor.DJ


/- The law's world: begin. -/
namespace Go.Proofs.YtakcdgeanbpllaaGreatDoor.DJ
open Go.RowKit

theorem TabL.mono {lo lo' : Nat} {w : World} (h : TabL lo w) (hl : lo ≤ lo') : TabL lo' w := fun X hX => h X (hX.mono hl)
theorem Lay.mono {W : World} {lo lo' : Nat} {S : Nat → Prop} {db : Nat} {d : Dk} {mb : Nat} {D : DataW Nat} {fb : List Nat → Nat} {vv : List Nat → Value} (h : Lay W lo S db d mb D fb vv) (hl : lo' ≤ lo) : Lay W lo' S db d mb D fb vv :=
  { h with
    fil := fun f hf => ⟨(h.fil f hf).row, (h.fil f hf).dat.mono hl⟩
    low := fun k hk => Nat.le_trans hl (h.low k hk) }
theorem DiskAt.mono {W : World} {lo lo' : Nat} {S : Nat → Prop} {db : Nat} {d : Dk} (h : DiskAt W lo S db d) (hl : lo' ≤ lo) : DiskAt W lo' S db d := by
  obtain ⟨mb, D, fb, vv, h⟩ := h
  exact ⟨mb, D, fb, vv, h.mono hl⟩

/-- The law's world. -/
def wdRow (db : Nat) (wp : Option Addr) (sum : Nat) (sv rv lv fv : Value) (soft : Bool) : Obj := .cells #[.pointer (some ⟨db, 0, none⟩), .pointer wp, .int .u32 (sum : Int), sv, rv, lv, fv, .bool soft] 32 (0, 0)

set_option maxRecDepth 4000 in
set_option maxHeartbeats 1000000 in
theorem begin_any (sum : Nat) (w : World) :
    Calls Tryz.prog 8 #[.int .u32 (sum : Int)] w fun e w' => ∃ S db ub, e = .returned (.pointer (some ⟨ub, 0, none⟩)) ∧ DiskAt w' w.heap.size S db dk0 ∧ w'.heap[ub]? = some (wdRow db none sum (.slice none 0 0) (.slice none 0 0) (.slice none 0 0) (.slice none 0 0) false) ∧ ¬ S ub ∧ w.heap.size ≤ ub ∧ Below w.heap.size w w' := by
  have hN := newDisk_nil 0 none w
  have hnil : ∀ (b : Nat) (W : World), (binOp BinOp.eql 27 (.pointer (some ⟨b, 0, none⟩)) (.pointer none)).run Tryz.prog W = .ok (.bool false) W := fun _ _ => rfl
  go_enter Tryz.func8, Tryz.ntmps8
  go_wp2_with (go_at_call 26; refine hN.mono ?_; rintro e w1 ⟨S, db, rfl, hD, hb⟩)
  go_ret
  have hl := hD.low
  exact ⟨S, db, w1.heap.size, rfl, hD.later ((Below.refl _ _).alloc (Nat.le_refl _) _), heap_new w1 _, fun e => by have := (hl _ e).2; omega, hb.size, hb.alloc hb.size _⟩
end Go.Proofs.YtakcdgeanbpllaaGreatDoor.DJ


/- world.open of a fresh world. -/
namespace Go.Proofs.YtakcdgeanbpllaaGreatDoor.DJ
open Go.RowKit

theorem wd_cells {W : World} {ub db : Nat} {wp : Option Addr} {sum : Nat} {sv rv lv fv : Value} {soft : Bool} (h : W.heap[ub]? = some (wdRow db wp sum sv rv lv fv soft)) : W.cell? ⟨ub, 0, none⟩ = some (.pointer (some ⟨db, 0, none⟩)) ∧ W.cell? ⟨ub, 1, none⟩ = some (.pointer wp) ∧ W.cell? ⟨ub, 2, none⟩ = some (.int .u32 (sum : Int)) ∧ W.cell? ⟨ub, 3, none⟩ = some sv ∧ W.cell? ⟨ub, 4, none⟩ = some rv ∧ W.cell? ⟨ub, 5, none⟩ = some lv ∧ W.cell? ⟨ub, 6, none⟩ = some fv ∧ W.cell? ⟨ub, 7, none⟩ = some (.bool soft) :=
  ⟨cell_of_row _ _ 0 _ _ _ h, cell_of_row _ _ 1 _ _ _ h, cell_of_row _ _ 2 _ _ _ h, cell_of_row _ _ 3 _ _ _ h, cell_of_row _ _ 4 _ _ _ h, cell_of_row _ _ 5 _ _ _ h, cell_of_row _ _ 6 _ _ _ h, cell_of_row _ _ 7 _ _ _ h⟩
theorem wd_frozen {W : World} {ub db : Nat} {wp : Option Addr} {sum : Nat} {sv rv lv fv : Value} {soft : Bool} (h : W.heap[ub]? = some (wdRow db wp sum sv rv lv fv soft)) (o : Nat) : W.frozen? ⟨ub, o, none⟩ = false := frozen_of_row _ _ o _ _ h
theorem wd_lt {W : World} {ub db : Nat} {wp : Option Addr} {sum : Nat} {sv rv lv fv : Value} {soft : Bool} (h : W.heap[ub]? = some (wdRow db wp sum sv rv lv fv soft)) : ub < W.heap.size := (Array.getElem?_eq_some_iff.1 h).1

/-- A fresh world that has been opened. -/
structure Fresh (lo : Nat) (S : Nat → Prop) (ub db wb sum : Nat) (d : Dk) (W : World) : Prop where
  disk : DiskAt W lo S db d
  drw : DwAt W wb db sum 1 0 false
  row : ∃ a c, W.heap[ub]? = some (wdRow db (some ⟨wb, 0, none⟩) sum (.slice a 0 c) (.slice none 0 0) (.slice none 0 0) (.slice none 0 0) false)
  nwb : ¬ S wb
  nub : ¬ S ub
  ne : wb ≠ ub
  lwb : lo ≤ wb
  lub : lo ≤ ub

set_option maxRecDepth 4000 in
set_option maxHeartbeats 2000000 in
theorem wopen_fresh {lo db ub sum : Nat} {S : Nat → Prop} {d : Dk} (hsum : sum < 4294967296) (hc : Calm d) (hd : d.fs = []) (w : World) (hlo : lo ≤ w.heap.size) (ht : TabL lo w) (h : DiskAt w lo S db d) (hub : ¬ S ub) (hlu : lo ≤ ub) {wp : Option Addr}
    (hrow : w.heap[ub]? = some (wdRow db wp sum (.slice none 0 0) (.slice none 0 0) (.slice none 0 0) (.slice none 0 0) false)) :
    Calls Tryz.prog 9 #[.pointer (some ⟨ub, 0, none⟩)] w fun e w' => e = .returned (.bool true) ∧ ∃ S' wb, Fresh lo S' ub db wb sum (openD d sum).2.2 w' ∧ Below lo w w' := by
  have hO := open_any sum hsum (d := d) (fun f hf => by rw [hd] at hf; simp at hf) w.drew (Nat.le_trans hlo (Nat.le_refl _)) (ht.next ((Below.refl _ _).drew)) (h.later ((Below.refl _ _).drew))
  have hG := gives_new (d := d) hsum hc hd
  have hSl := h.low
  obtain ⟨r, hr⟩ : ∃ r, openD d sum = r := ⟨_, rfl⟩
  have hul := wd_lt hrow
  have hOp : Hid (∀ e X, OpP lo db S d sum w.drew e X → ∃ S' wb sa sc ra rc, e = .returned (.tuple #[.pointer (some ⟨wb, 0, none⟩), .slice sa 0 sc, .slice ra 0 rc, .int .i64 0]) ∧ DiskAt X lo S' db r.2.2 ∧ Dv S w S' X ∧ w.heap.size ≤ wb ∧ DwAt X wb db sum 1 0 false ∧ ¬ S' wb ∧ (sa = none → sc = 0)) := ⟨fun e X hX => by
    obtain ⟨S', h1, h2, h3⟩ := hX
    obtain ⟨e1, e2, -, -⟩ := hG
    rw [e2] at h3
    obtain ⟨wb, sa, sc, ra, rc, rfl, -, h4, h5, h6, h7, h8⟩ := h3
    rw [hr] at h1
    exact ⟨S', wb, sa, sc, ra, rc, rfl, h1, ⟨⟨h2.gr.os, h2.gr.tape, h2.gr.output, h2.gr.size, h2.gr.block⟩, h2.sub⟩, h4, h5, h6, own_none h7⟩⟩
  rw [hr]
  clear hr hG
  obtain ⟨q0, q1, q2, -⟩ := wd_cells hrow
  have S0 : w.drew.cell? ⟨ub, 0, none⟩ = some (.pointer (some ⟨db, 0, none⟩)) ∧ w.drew.cell? ⟨ub, 2, none⟩ = some (.int .u32 (sum : Int)) := ⟨q0, q2⟩
  have hnil : ∀ (b : Nat) (W : World), (binOp BinOp.eql 28 (.pointer (some ⟨b, 0, none⟩)) (.pointer none)).run Tryz.prog W = .ok (.bool false) W := fun _ _ => rfl
  go_enter Tryz.func9, Tryz.ntmps9
  go_wp2_with fail
  go_region_held3 (fun X => X.cell? ⟨ub, 0, none⟩ = some (.pointer (some ⟨db, 0, none⟩)) ∧ X.cell? ⟨ub, 2, none⟩ = some (.int .u32 (sum : Int))) (with_reducible assumption) ((go_at_call 24; refine hO.mono ?_; intro e w1 hm1; obtain ⟨S1, wb, sa, sc, ra, rc, rfl, hD1, hv1, hwb, hw1, hnS, hsc⟩ := hOp.out _ _ hm1; clear hm1; have hrow1 := (hv1.gr.block ub hul hub).trans hrow; obtain ⟨x0, x1, x2, -⟩ := wd_cells hrow1; have S1' := And.intro x0 x2))
  have hne : wb ≠ ub := by omega
  have hrX : (w1.setCell ⟨ub, 1, none⟩ (.pointer (some ⟨wb, 0, none⟩))).heap[ub]? = some (wdRow db (some ⟨wb, 0, none⟩) sum (.slice none 0 0) (.slice none 0 0) (.slice none 0 0) (.slice none 0 0) false) := heap_setCell_same _ _ 1 _ _ _ hrow1
  have hwX : DwAt (w1.setCell ⟨ub, 1, none⟩ (.pointer (some ⟨wb, 0, none⟩))) wb db sum 1 0 false := hw1.grS (grS_set w1 ub 1 _) hne
  have hnu : ¬ S1 ub := fun e => by
    rcases hv1.sub _ e with e | e
    · exact hub e
    · omega
  have hDX := hD1.grS (grS_set w1 ub 1 (.pointer (some ⟨wb, 0, none⟩))) (fun k hk e => hnu (e ▸ hk))
  have hBX : Below lo w (w1.setCell ⟨ub, 1, none⟩ (.pointer (some ⟨wb, 0, none⟩))) := (hv1.below' hlo hSl).trans ((grS_set w1 ub 1 _).below (Nat.le_trans hlo hv1.gr.size) (fun k e => e ▸ hlu))
  have hszX : (w1.setCell ⟨ub, 1, none⟩ (.pointer (some ⟨wb, 0, none⟩))).heap.size = w1.heap.size := by simp
  have f1 := wd_frozen hrow1 1
  go_upto_region 5 with fail
  obtain ⟨X1, hX1⟩ : ∃ X1, w1.setCell ⟨ub, 1, none⟩ (.pointer (some ⟨wb, 0, none⟩)) = X1 := ⟨_, rfl⟩
  rw [hX1] at hrX hwX hDX hBX hszX ⊢
  have hM : Calls Tryz.prog 27 #[.pointer (some ⟨ub, 0, none⟩), .slice sa 0 sc, .slice ra 0 rc] X1 fun e w' => e = .returned (.bool true) ∧ ∃ m, w' = X1.drewN m := by
    obtain ⟨-, -, -, y3, y4, y5, y6, -⟩ := wd_cells hrX
    exact may_same (w := X1) (b := ub) (s := []) (R := []) (L := []) (F := []) (sa := none) (ra := none) (la := none) (fa := none) (sc := 0) (rc := 0) (lc := 0) (fc := 0) ⟨y3, y4, y5, y6, ⟨fun x hx => by simp at hx, .inl rfl⟩, ⟨fun x hx => by simp at hx, .inl rfl⟩, ⟨fun x hx => by simp at hx, .inl rfl⟩, .inl rfl, by decide⟩ sa ra sc rc ⟨fun x hx => by simp at hx, .inl rfl⟩ ⟨fun x hx => by simp at hx, .inl rfl⟩
  have hLn := fun m => len_any (X1.drewN m) (hwX.later (below_drewN (Below.refl _ _) m))
  clear hX1 hrow1 hw1 hD1 hv1 x0 x1 x2 S1' q0 q1 q2 S0 hO hOp hrow h
  replace hLn := Hid.mk hLn
  replace hM := Hid.mk hM
  go_wp2_with (first | (go_at_call 27; refine hM.out.mono ?_; rintro e w2 ⟨rfl, m2, rfl⟩) | (go_at_call 28; refine (hLn.out m2).mono ?_; rintro e w3 ⟨rfl, rfl⟩) | (at_builtin; refine stopJ ?_))
  unfold StopJ
  have hrD : (X1.drewN m2).heap[ub]? = some (wdRow db (some ⟨wb, 0, none⟩) sum (.slice none 0 0) (.slice none 0 0) (.slice none 0 0) (.slice none 0 0) false) := ((below_drewN (Below.refl X1.heap.size X1) m2).block _ (wd_lt hrX)).trans hrX
  have hwD := hwX.later (below_drewN (Below.refl X1.heap.size X1) m2)
  have hDD := hDX.later (below_drewN (Below.refl X1.heap.size X1) m2)
  have hBD : Below lo w (X1.drewN m2) := below_drewN hBX m2
  clear hrX hwX hDX hBX hLn hM
  generalize X1.drewN m2 = X2 at *
  refine wpList_copyN X2 rfl _ _ rfl X2.heap.size (Nat.le_refl _) (.slice none 0 0) rfl (World.ownsRow_nil _ _ _ _) sa sc [] rfl hsc ⟨fun x hx => by simp at hx, .inl rfl⟩ (by decide) ?_
  intro a5 c5 w5 ho5 hB5 hb5
  have hr5 := (hb5.block _ (wd_lt hrD)).trans hrD
  obtain ⟨y0, y1, y2, y3, y4, y5, y6, y7⟩ := wd_cells hr5
  have g3 := wd_frozen hr5 3
  have g4 := wd_frozen hr5 4
  have g5 := wd_frozen hr5 5
  have g6 := wd_frozen hr5 6
  have g7 := wd_frozen hr5 7
  simp only [List.length_nil]
  have hgs := fun (X : World) (o : Nat) (v : Value) => grS_set X ub o v
  have step : ∀ (X : World) (o : Nat) (v : Value), DiskAt X lo S1 db r.2.2 ∧ DwAt X wb db sum 1 0 false ∧ Below lo w X → DiskAt (X.setCell ⟨ub, o, none⟩ v) lo S1 db r.2.2 ∧ DwAt (X.setCell ⟨ub, o, none⟩ v) wb db sum 1 0 false ∧ Below lo w (X.setCell ⟨ub, o, none⟩ v) := fun X o v hX => ⟨hX.1.grS (hgs X o v) (fun k hk e => hnu (e ▸ hk)), hX.2.1.grS (hgs X o v) hne, hX.2.2.trans ((hgs X o v).below (Nat.le_trans hlo hX.2.2.size) (fun k e => e ▸ hlu))⟩
  have P5 : DiskAt w5 lo S1 db r.2.2 ∧ DwAt w5 wb db sum 1 0 false ∧ Below lo w w5 := ⟨hDD.later hb5, hwD.later hb5, hBD.trans (hb5.mono (Nat.le_trans hlo hBD.size))⟩
  have P6 := step _ 4 (.slice none 0 0) (step _ 3 (.slice a5 0 c5) P5)
  have hr6 : ((w5.setCell ⟨ub, 3, none⟩ (.slice a5 0 c5)).setCell ⟨ub, 4, none⟩ (.slice none 0 0)).heap[ub]? = some (wdRow db (some ⟨wb, 0, none⟩) sum (.slice a5 0 c5) (.slice none 0 0) (.slice none 0 0) (.slice none 0 0) false) := heap_setCell_same _ _ 4 _ _ _ (heap_setCell_same _ _ 3 _ _ _ hr5)
  replace step := Hid.mk step
  replace P6 := Hid.mk P6
  clear P5 hgs
  go_wp2
  generalize (w5.setCell ⟨ub, 3, none⟩ (.slice a5 0 c5)).setCell ⟨ub, 4, none⟩ (.slice none 0 0) = W6 at *
  go_loopw [7] (fun v wr => v = .int .i64 0 ∧ wr = W6) (fun _ _ => 0)
  case atStart => exact ⟨rfl, rfl⟩
  case round =>
    obtain ⟨rfl, rfl⟩ := hrel
    obtain ⟨z0, z1, z2, z3, z4, z5, z6, z7⟩ := wd_cells hr6
    have k5 := wd_frozen hr6 5
    have k6 := wd_frozen hr6 6
    have k7 := wd_frozen hr6 7
    have hfin : Hid (Fresh lo S1 ub db wb sum r.2.2 (((wr.setCell ⟨ub, 5, none⟩ (.slice none 0 0)).setCell ⟨ub, 6, none⟩ (.slice none 0 0)).setCell ⟨ub, 7, none⟩ (.bool false)) ∧ Below lo w (((wr.setCell ⟨ub, 5, none⟩ (.slice none 0 0)).setCell ⟨ub, 6, none⟩ (.slice none 0 0)).setCell ⟨ub, 7, none⟩ (.bool false))) := by
      have P9 := step.out _ 7 (.bool false) (step.out _ 6 (.slice none 0 0) (step.out _ 5 (.slice none 0 0) P6.out))
      exact ⟨⟨P9.1, P9.2.1, ⟨a5, c5, heap_setCell_same _ _ 7 _ _ _ (heap_setCell_same _ _ 6 _ _ _ (heap_setCell_same _ _ 5 _ _ _ hr6))⟩, hnS, hnu, hne, Nat.le_trans hlo hwb, hlu⟩, P9.2.2⟩
    clear hr6 hr5 hrD hwD hDD
    go_wp2
    go_ret
    exact ⟨rfl, S1, wb, hfin.out⟩
end Go.Proofs.YtakcdgeanbpllaaGreatDoor.DJ


/- known(). -/
namespace Go.Proofs.YtakcdgeanbpllaaGreatDoor.DJ
open Go.RowKit
set_option linter.constructorNameAsVariable false

/-- A world of generation 1 whose own lists have not been touched. -/
structure Run (lo : Nat) (S : Nat → Prop) (ub db wb sum : Nat) (d : Dk) (n : Nat) (stuck : Bool) (W : World) : Prop where
  disk : DiskAt W lo S db d
  drw : DwAt W wb db sum 1 n stuck
  row : ∃ a c, W.heap[ub]? = some (wdRow db (some ⟨wb, 0, none⟩) sum (.slice a 0 c) (.slice none 0 0) (.slice none 0 0) (.slice none 0 0) false)
  nwb : ¬ S wb
  nub : ¬ S ub
  ne : wb ≠ ub
  lwb : lo ≤ wb
  lub : lo ≤ ub
theorem Fresh.run {lo : Nat} {S : Nat → Prop} {ub db wb sum : Nat} {d : Dk} {W : World} (h : Fresh lo S ub db wb sum d W) : Run lo S ub db wb sum d 0 false W := ⟨h.disk, h.drw, h.row, h.nwb, h.nub, h.ne, h.lwb, h.lub⟩
theorem Run.later {lo : Nat} {S : Nat → Prop} {ub db wb sum : Nat} {d : Dk} {n : Nat} {stuck : Bool} {W X : World} (h : Run lo S ub db wb sum d n stuck W) (hX : Below W.heap.size W X) : Run lo S ub db wb sum d n stuck X :=
  ⟨h.disk.later hX, h.drw.later hX, by obtain ⟨a, c, hr⟩ := h.row; exact ⟨a, c, (hX.block _ (wd_lt hr)).trans hr⟩, h.nwb, h.nub, h.ne, h.lwb, h.lub⟩
theorem Run.put {lo : Nat} {S S' : Nat → Prop} {ub db wb sum : Nat} {d d' : Dk} {n n' : Nat} {stuck st' : Bool} {W X : World} (h : Run lo S ub db wb sum d n stuck W) (hD : DiskAt X lo S' db d') (hw : DwAt X wb db sum 1 n' st') (hv : Dw S wb W S' X) : Run lo S' ub db wb sum d' n' st' X := by
  obtain ⟨a, c, hr⟩ := h.row
  have hl := wd_lt hr
  have hwl := h.drw.lt
  refine ⟨hD, hw, ⟨a, c, (hv.gr.block ub hl (fun e => ?_)).trans hr⟩, fun e => ?_, fun e => ?_, h.ne, h.lwb, h.lub⟩
  · rcases e with e | e
    · exact h.nub e
    · exact h.ne e.symm
  · rcases hv.sub _ e with e | e
    · exact h.nwb e
    · omega
  · rcases hv.sub _ e with e | e
    · exact h.nub e
    · omega
theorem Run.bel {lo : Nat} {S S' : Nat → Prop} {ub db wb sum : Nat} {d : Dk} {n : Nat} {stuck : Bool} {W X : World} (h : Run lo S ub db wb sum d n stuck W) (hlo : lo ≤ W.heap.size) (hv : Dw S wb W S' X) : Below lo W X := hv.gr.below hlo (fun k hk => by
  rcases hk with hk | rfl
  · exact (h.disk.low k hk).1
  · exact h.lwb)
theorem Run.rig {lo : Nat} {S : Nat → Prop} {ub db wb sum : Nat} {d d' : Dk} {n : Nat} {stuck : Bool} {W X : World} (h : Run lo S ub db wb sum d n stuck W) (hD : DiskAt X lo S db d') (hg : GrS (fun k => k = db) W X) : Run lo S ub db wb sum d' n stuck X := by
  obtain ⟨a, c, hr⟩ := h.row
  have hdb : S db := by obtain ⟨mb, D, fb, vv, hL⟩ := h.disk; exact hL.Sdb
  exact ⟨hD, h.drw.grS hg (fun e => h.nwb (e ▸ hdb)), ⟨a, c, (hg.block ub (wd_lt hr) (fun e => h.nub (e ▸ hdb))).trans hr⟩, h.nwb, h.nub, h.ne, h.lwb, h.lub⟩
theorem Run.dv {lo : Nat} {S S' : Nat → Prop} {ub db wb sum : Nat} {d d' : Dk} {n : Nat} {stuck : Bool} {W X : World} (h : Run lo S ub db wb sum d n stuck W) (hD : DiskAt X lo S' db d') (hv : Dv S W S' X) : Run lo S' ub db wb sum d' n stuck X := h.put hD (h.drw.grS hv.gr h.nwb) (hv.dw wb)
theorem Run.ldb {lo : Nat} {S : Nat → Prop} {ub db wb sum : Nat} {d : Dk} {n : Nat} {stuck : Bool} {W : World} (h : Run lo S ub db wb sum d n stuck W) : lo ≤ db := by
  have hdb : S db := by obtain ⟨mb, D, fb, vv, hL⟩ := h.disk; exact hL.Sdb
  exact (h.disk.low _ hdb).1
theorem Run.c1 {lo : Nat} {S : Nat → Prop} {ub db wb sum : Nat} {d : Dk} {n : Nat} {stuck : Bool} {W : World} (h : Run lo S ub db wb sum d n stuck W) : W.cell? ⟨ub, 1, none⟩ = some (.pointer (some ⟨wb, 0, none⟩)) := by
  obtain ⟨a, c, hr⟩ := h.row; exact (wd_cells hr).2.1
theorem Run.c0 {lo : Nat} {S : Nat → Prop} {ub db wb sum : Nat} {d : Dk} {n : Nat} {stuck : Bool} {W : World} (h : Run lo S ub db wb sum d n stuck W) : W.cell? ⟨ub, 0, none⟩ = some (.pointer (some ⟨db, 0, none⟩)) := by
  obtain ⟨a, c, hr⟩ := h.row; exact (wd_cells hr).1

theorem run_put {lo : Nat} {S : Nat → Prop} {ub db wb sum : Nat} {d : Dk} {n : Nat} {stuck : Bool} {W : World} (h : Run lo S ub db wb sum d n stuck W) (hsum : sum < 4294967296) (hn : n + 1 < 4294967296) (hlo : lo ≤ W.heap.size) (ht : TabL lo W) (kind : Nat) (hk : kind < 256) (bs : List Nat) (hlen : bs.length ≤ 140737488355328) (X : World) (hX : Below W.heap.size W X) (a : Option Addr) (c : Nat) (hc : a = none → c = 0) (hN : Byts X a bs) :
    Calls Tryz.prog 12 #[.pointer (some ⟨wb, 0, none⟩), .agg #[.int .u8 (kind : Int), .slice a bs.length c]] X fun e X' => e = .returned (.int .i64 ((putR d sum 1 n stuck (kind, bs)).1 : Nat)) ∧ ∃ S', Run lo S' ub db wb sum (putR d sum 1 n stuck (kind, bs)).2.1 (putR d sum 1 n stuck (kind, bs)).2.2.1 (putR d sum 1 n stuck (kind, bs)).2.2.2 X' ∧ Below lo W X' := by
  have hR := h.later hX
  refine (put_any (g := 1) (by decide) hsum hn kind hk bs hlen a c hc X (Nat.le_trans hlo hX.size) (ht.next (hX.mono hlo)) hN hR.drw h.nwb h.lwb hR.disk).mono ?_
  rintro e X' ⟨rfl, S', h1, h2, h3⟩
  exact ⟨rfl, S', hR.put h1 h2 h3, (hX.mono hlo).trans (hR.bel (Nat.le_trans hlo hX.size) h3)⟩
theorem byts_lit (W : World) (k : Nat) (hk : k < 256) : Byts (W.alloc (.cells #[.int .u8 (k : Int)] 5)).drew (some ⟨W.heap.size, 0, none⟩) [k] := (byts1 W k hk).later ((Below.refl _ _).drew)

set_option maxRecDepth 20000 in
set_option maxHeartbeats 2000000 in
theorem known_any {lo : Nat} (w : World) (hlo : lo ≤ w.heap.size) (ht : TabL lo w) :
    Calls Tryz.prog 7 #[] w fun e w' => e = .returned (.bool true) ∧ Below w.heap.size w w' := by
  have hB := begin_any 7 w
  have htw : TabL w.heap.size w := ht.mono hlo
  have hWo := fun (X : World) (S : Nat → Prop) (db ub : Nat) (hX : Below w.heap.size w X) (hD : DiskAt X w.heap.size S db dk0) (hub : ¬ S ub) (hlu : w.heap.size ≤ ub) hrow => wopen_fresh (wp := none) (sum := 7) (by decide) ⟨rfl, rfl, rfl⟩ rfl X hX.size (htw.next hX) hD hub hlu hrow
  have hnil : ∀ (b : Nat) (W : World), (binOp BinOp.eql 25 (.pointer (some ⟨b, 0, none⟩)) (.pointer none)).run Tryz.prog W = .ok (.bool false) W := fun _ _ => rfl
  have hnil2 : ∀ (b : Nat) (W : World), (binOp BinOp.eql 28 (.pointer (some ⟨b, 0, none⟩)) (.pointer none)).run Tryz.prog W = .ok (.bool false) W := fun _ _ => rfl
  replace hWo := Hid.mk hWo
  go_enter Tryz.func7, Tryz.ntmps7
  go_upto_region 4 with (first | (go_at_call 8; refine hB.mono ?_; rintro e w1 ⟨S1, db, ub, rfl, hD1, hr1, hu1, hl1, hb1⟩) | (go_at_call 9; refine (hWo.out _ _ _ _ hb1 hD1 hu1 hl1 hr1).mono ?_; rintro e w2 ⟨rfl, S2, wb, hF2, hb2⟩; have R2 := Fresh.run hF2; have c1 := R2.c1; have c0 := R2.c0))
  have hbw2 : Below w.heap.size w w2 := hb1.trans hb2
  clear hWo hB hF2 hD1 hr1
  have kR : (openD dk0 7).2.2 = kd1 := rfl
  rw [kR] at R2
  obtain ⟨k11, k12⟩ := kf1
  have hPt := run_put R2 (by decide) (by decide) hbw2.size (htw.next hbw2) 5 (by decide) [97] (by decide)
  rw [k11, k12, show (putR kd1 7 1 0 false (5, [97])).2.1 = kd2 from rfl] at hPt
  have BA2 : Below w2.heap.size w2 (w2.alloc (.cells #[.int .u8 97] 5)).drew := ((Below.refl _ _).alloc (Nat.le_refl _) _).drew
  have hRc := record_any 5 (some ⟨w2.heap.size, 0, none⟩) 1 (fun e => by cases e) [97] (by decide) _ (byts_lit w2 97 (by decide))
  have cA : ∀ X, Below w2.heap.size w2 X → X.cell? ⟨ub, 1, none⟩ = some (.pointer (some ⟨wb, 0, none⟩)) := fun X hX => (R2.later hX).c1
  have S2' := cA _ BA2
  have S2'' := cA _ (Below.refl w2.heap.size w2).drew
  replace cA := Hid.mk cA
  replace hPt := Hid.mk hPt
  go_region_held3 (fun X => X.cell? ⟨ub, 1, none⟩ = some (.pointer (some ⟨wb, 0, none⟩))) (with_reducible assumption) (first | (go_at_call 13; refine hRc.mono ?_; rintro e w3 ⟨p3, c3, rfl, ho3, hb3⟩; have B3 := BA2.trans (hb3.mono BA2.size); have S3 := cA.out _ B3; have hby3 := Hid.mk (byts_of_own (n := 1) (bs := [97]) (by decide) ho3); have hcc3 := own_none ho3) | (go_at_call 12; refine (hPt.out w3 B3 p3 c3 hcc3 hby3.out).mono ?_; rintro e w4 ⟨rfl, S4, R4, hb4⟩; have S4' := R4.c1; have c40 := R4.c0))
  have hbw4 : Below w.heap.size w w4 := hbw2.trans hb4
  have hAr := arm_any (u := 3) (by decide) (by decide) w4 R4.disk
  clear hPt cA hRc S2' S2'' S3 hby3 ho3 BA2 B3 hb3 hcc3 c1 c0 R2 k11 k12 kR hb2 hb1 hu1 hl1
  go_upto_region 7 with (go_at_call 10; refine hAr.mono ?_; rintro e w5 ⟨rfl, hD5, hg5⟩)
  have R5 : Run w.heap.size S4 ub db wb 7 kd3 1 false w5 := R4.rig hD5 hg5
  have hbw5 : Below w.heap.size w w5 := hbw4.trans (hg5.below hbw4.size (fun k e => e ▸ R4.ldb))
  clear hAr hD5 hg5 R4 S4' c40 hb4 hbw4 hbw2
  obtain ⟨k21, k22⟩ := kf2
  have hPt := run_put R5 (by decide) (by decide) hbw5.size (htw.next hbw5) 6 (by decide) [98] (by decide)
  rw [k21, k22, show (putR kd3 7 1 1 false (6, [98])).2.1 = kd4 from rfl] at hPt
  have BA5 : Below w5.heap.size w5 (w5.alloc (.cells #[.int .u8 98] 5)).drew := ((Below.refl _ _).alloc (Nat.le_refl _) _).drew
  have hRc := record_any 6 (some ⟨w5.heap.size, 0, none⟩) 1 (fun e => by cases e) [98] (by decide) _ (byts_lit w5 98 (by decide))
  have cA : ∀ X, Below w5.heap.size w5 X → X.cell? ⟨ub, 1, none⟩ = some (.pointer (some ⟨wb, 0, none⟩)) := fun X hX => (R5.later hX).c1
  have S5' := cA _ BA5
  have S5'' := cA _ (Below.refl w5.heap.size w5).drew
  replace cA := Hid.mk cA
  replace hPt := Hid.mk hPt
  go_region_held3 (fun X => X.cell? ⟨ub, 1, none⟩ = some (.pointer (some ⟨wb, 0, none⟩))) (with_reducible assumption) (first | (go_at_call 13; refine hRc.mono ?_; rintro e w6 ⟨p6, c6, rfl, ho6, hb6⟩; have B6 := BA5.trans (hb6.mono BA5.size); have S6 := cA.out _ B6; have hby6 := Hid.mk (byts_of_own (n := 1) (bs := [98]) (by decide) ho6); have hcc6 := own_none ho6) | (go_at_call 12; refine (hPt.out w6 B6 p6 c6 hcc6 hby6.out).mono ?_; rintro e w7 ⟨rfl, S7, R7, hb7⟩; have S7' := R7.c1))
  have hbw7 : Below w.heap.size w w7 := hbw5.trans hb7
  clear hPt cA hRc S5' S5'' S6 hby6 ho6 BA5 B6 hb6 hcc6 R5 k21 k22 hb7 hbw5
  have hPt := run_put R7 (by decide) (by decide) hbw7.size (htw.next hbw7) 6 (by decide) [] (by decide)
  rw [show putR kd4 7 1 1 true (6, []) = (196, kd4, 1, true) from rfl] at hPt
  have D7 : Below w7.heap.size w7 w7.drew := (Below.refl _ _).drew
  have hRc := record_any 6 none 0 (fun _ => rfl) [] (by decide) w7.drew ⟨fun x hx => by simp at hx, .inl rfl⟩
  have cA : ∀ X, Below w7.heap.size w7 X → X.cell? ⟨ub, 1, none⟩ = some (.pointer (some ⟨wb, 0, none⟩)) := fun X hX => (R7.later hX).c1
  have S7'' := cA _ D7
  replace cA := Hid.mk cA
  replace hPt := Hid.mk hPt
  go_upto_region 8 with fail
  go_region_held3 (fun X => X.cell? ⟨ub, 1, none⟩ = some (.pointer (some ⟨wb, 0, none⟩))) (with_reducible assumption) (first | (go_at_call 13; refine hRc.mono ?_; rintro e w8 ⟨p8, c8, rfl, ho8, hb8⟩; have B8 := D7.trans (hb8.mono D7.size); have S8 := cA.out _ B8; have hcc8 := own_none ho8) | (go_at_call 12; refine (hPt.out w8 B8 p8 c8 hcc8 ⟨fun x hx => (by simp at hx), .inl rfl⟩).mono ?_; rintro e w9 ⟨rfl, S9, R9, hb9⟩; have S9' := R9.c1))
  have hbw9 : Below w.heap.size w w9 := hbw7.trans hb9
  have c90 := R9.c0
  clear hPt cA hRc S7'' S7' S8 ho8 B8 hb8 hcc8 R7 hb9 hbw7 D7
  have BAr : Below w9.heap.size w9 (w9.alloc (.cells #[.int .i64 100] 3)) := (Below.refl _ _).alloc (Nat.le_refl _) _
  have hRs := restart_any [100] (by decide) (some ⟨w9.heap.size, 0, none⟩) 1 (w9.alloc (.cells #[.int .i64 100] 3)) (Nat.le_trans hbw9.size BAr.size) (.inr ⟨w9.heap.size, 0, rfl, by simp, fun i hi => by
    obtain rfl : i = 0 := by simpa using hi
    exact cell_of_row _ _ 0 _ _ _ (heap_new w9 _)⟩) (fun p e hS => by cases e; have := (R9.disk.low _ hS).2; simp at this) (R9.disk.later BAr)
  rw [show restart kd4 [100] = kd5 from rfl] at hRs
  go_wp2_with (go_at_call 19; refine hRs.mono ?_; rintro e w10 ⟨rfl, S10, hD10, hv10⟩; have R10 := (R9.later BAr).dv hD10 hv10; have c10 := R10.c0)
  have hbw10 : Below w.heap.size w w10 := (hbw9.trans (BAr.mono hbw9.size)).trans (hv10.below' (Nat.le_trans hbw9.size BAr.size) (R9.later BAr).disk.low)
  have hOp := open_any 7 (by decide) kall5 w10 hbw10.size (htw.next hbw10) hD10
  have hSl := hD10.low
  have hRes : Hid (∀ e X, OpP w.heap.size db S10 kd5 7 w10 e X → ∃ wb2 sa sc rb ro rc, e = .returned (.tuple #[.pointer (some ⟨wb2, 0, none⟩), .slice sa 0 sc, .slice (some ⟨rb, ro, none⟩) 1 rc, .int .i64 0]) ∧ Below w.heap.size w X ∧ X.cell? ⟨rb, ro, none⟩ = some (.int .u8 5) ∧ ∃ p c, X.cell? ⟨rb, ro + 1, none⟩ = some (.slice p 1 c) ∧ Byts X p [97]) := ⟨fun e X hX => by
    obtain ⟨S', h1, h2, h3⟩ := hX
    obtain ⟨e1, e2⟩ := kf3
    rw [e2] at h3
    obtain ⟨wb2, sa, sc, ra, rc, rfl, -, -, -, -, -, hrc⟩ := h3
    obtain ⟨-, h4 | ⟨rb, ro, rfl, -, hc⟩⟩ := hrc.at_
    · cases h4
    · obtain ⟨h5, p, c, h6, h7⟩ := hc 0 (by decide)
      exact ⟨wb2, sa, sc, rb, ro, rc, rfl, hbw10.trans (h2.below' hbw10.size hSl), h5, p, c, h6, h7⟩⟩
  clear hRs hD10 hv10 R10 c10 R9 BAr S9' c90 hbw9 hSl
  refine hOp.mono ?_
  intro e w11 hm11
  obtain ⟨wb2, sa, sc, rb, ro, rc, rfl, hb11, t0, tp, tc, t1, hby⟩ := hRes.out _ _ hm11
  clear hm11 hOp hRes
  have BA : Below w11.heap.size w11 (w11.alloc (.cells #[.int .u8 97] 5)) := (Below.refl _ _).alloc (Nat.le_refl _) _
  have hSB := sameBytes_any (hby.later BA) (byts1 w11 97 (by decide)) tc 1
  rw [decide_eq_true rfl] at hSB
  have hnil3 : ∀ W : World, (binOp BinOp.neq 28 (.pointer (some ⟨wb2, 0, none⟩)) (.pointer none)).run Tryz.prog W = .ok (.bool true) W := fun _ => rfl
  replace hby := Hid.mk hby
  go_wp2_with (go_at_call 25; refine hSB.mono ?_; rintro e w12 ⟨rfl, hw12⟩)
  go_ret
  exact ⟨rfl, hb11.trans (BA.mono hb11.size)⟩
end Go.Proofs.YtakcdgeanbpllaaGreatDoor.DJ

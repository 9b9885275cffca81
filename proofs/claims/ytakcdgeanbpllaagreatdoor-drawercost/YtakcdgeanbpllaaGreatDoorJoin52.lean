import Derived.Test.YtakcdgeanbpllaaGreatDoorTurnDsB
import Derived.Test.YtakcdgeanbpllaaGreatDoorJoin50
import Derived.Test.YtakcdgeanbpllaaGreatDoorJoin47
/- Open. -/
namespace Go.Proofs.YtakcdgeanbpllaaGreatDoor.DJ
open Go.RowKit

theorem Rd.le {sum : Nat} {b : List Nat} {k : Nat} {l : List Rec} {n : Nat} (h : Rd sum b k l n) : n ≤ b.length := by
  induction h with
  | stop _ => exact Nat.zero_le _
  | more hw _ ih =>
    have := (whole_len hw).1
    rw [List.length_drop] at ih
    omega
theorem recs_le (sum : Nat) (b : List Nat) (k : Nat) : (recs sum b k).2 ≤ b.length := (recsF_rd sum b.length b k (Nat.le_refl _)).le
theorem Rd.cnt {sum : Nat} {b : List Nat} {k : Nat} {l : List Rec} {n : Nat} (h : Rd sum b k l n) : l.length ≤ n := by
  induction h with
  | stop _ => exact Nat.zero_le _
  | more hw _ ih => rw [List.length_cons]; omega
theorem recs_cnt (sum : Nat) (b : List Nat) (k : Nat) : (recs sum b k).1.length ≤ b.length := Nat.le_trans (recsF_rd sum b.length b k (Nat.le_refl _)).cnt (recs_le sum b k)

/-- What Open answers. -/
def OpP (lo db : Nat) (S : Nat → Prop) (d : Dk) (sum : Nat) (w : World) (e : Ending) (w' : World) : Prop :=
  ∃ S', DiskAt w' lo S' db (openD d sum).2.2 ∧ Dv S w S' w' ∧ match (openD d sum).2.1 with
    | none => e = .returned (.tuple #[.pointer none, .slice none 0 0, .slice none 0 0, .int .i64 ((openD d sum).1 : Nat)]) ∧ (openD d sum).1 ≠ 0
    | some (g, s, R) => ∃ wb sa sc ra rc, e = .returned (.tuple #[.pointer (some ⟨wb, 0, none⟩), .slice sa s.length sc, .slice ra R.length rc, .int .i64 0]) ∧ (openD d sum).1 = 0 ∧ w.heap.size ≤ wb ∧ DwAt w' wb db sum g R.length false ∧ ¬ S' wb ∧ w'.ownsRow w.heap.size 5 1 (.slice sa s.length sc) s.length (bysV s) ∧ RcO w' w.heap.size (.slice ra R.length rc) R

theorem op_ret {Q : Ending → World → Prop} {tmps : Array Value} {X : World} {a b c d : Value} (h4 : tmps.getD 4 undef = a) (h5 : tmps.getD 5 undef = b) (h6 : tmps.getD 6 undef = c) (h7 : tmps.getD 7 undef = d) (hP : Q (.returned (.tuple #[a, b, c, d])) X) : bodyPost Tryz.prog Tryz.f24 Q Exit.ret { tmps := tmps, defers := [] } X := by
  refine bodyPost_ret (v := .tuple #[a, b, c, d]) ?_ rfl hP
  subst h4 h5 h6 h7
  simp [results, Tryz.results24, go_sem]

set_option maxRecDepth 4000 in
set_option maxHeartbeats 2000000 in
theorem open_down {lo db : Nat} {S : Nat → Prop} {d : Dk} (sum : Nat) (hd : d.down = true) (w : World) (h : DiskAt w lo S db d) :
    Calls Tryz.prog 24 #[.pointer (some ⟨db, 0, none⟩), .int .u32 (sum : Int)] w (OpP lo db S d sum w) := by
  have hO : openD d sum = (190, none, d) := by unfold openD; rw [hd]; rfl
  have hP : Hid (OpP lo db S d sum w (.returned (.tuple #[.pointer none, .slice none 0 0, .slice none 0 0, .int .i64 190])) w) := ⟨S, by rw [hO]; exact h, .refl _ _, by rw [hO]; exact ⟨rfl, fun e => by cases e⟩⟩
  obtain ⟨mb, D, fb, vv, hL⟩ := h
  have k5 : w.cell? ⟨db, 5, none⟩ = some (.bool true) := by rw [cell_of_row _ _ 5 _ _ _ hL.row, hd]; rfl
  have hnil : ∀ W : World, (binOp BinOp.eql 27 (.pointer (some ⟨db, 0, none⟩)) (.pointer none)).run Tryz.prog W = .ok (.bool false) W := fun _ => rfl
  go_enter Tryz.func24, Tryz.ntmps24
  go_wp2
  exact op_ret rfl rfl rfl rfl hP.out

set_option maxRecDepth 4000 in
set_option maxHeartbeats 2000000 in
theorem open_new {lo db : Nat} {S : Nat → Prop} {d : Dk} (sum : Nat) (hsum : sum < 4294967296) (hd : d.down = false) (hb : best d.fs = none) (hall : ∀ f ∈ d.fs, ∃ k, k ≤ 99999999 ∧ f.nm = Nm k) (w : World) (hlo : lo ≤ w.heap.size) (ht : TabL lo w) (h : DiskAt w lo S db d) :
    Calls Tryz.prog 24 #[.pointer (some ⟨db, 0, none⟩), .int .u32 (sum : Int)] w (OpP lo db S d sum w) := by
  have hN := newest_any hall w h
  have hSl := h.low
  have hO : openD d sum = if (newR d sum).1 ≠ 0 then ((newR d sum).1, none, (newR d sum).2) else (0, some (1, [], []), (newR d sum).2) := by unfold openD newR; rw [hd, hb]; rfl
  have hbl : lastGood d.fs = none := by
    obtain ⟨mb, D, fb, vv, hL⟩ := h
    rw [← best_eq hL.ok.srt]; exact hb
  have k5 : w.cell? ⟨db, 5, none⟩ = some (.bool false) := by
    obtain ⟨mb, D, fb, vv, hL⟩ := h
    rw [cell_of_row _ _ 5 _ _ _ hL.row, hd]; rfl
  have hnil : ∀ W : World, (binOp BinOp.eql 27 (.pointer (some ⟨db, 0, none⟩)) (.pointer none)).run Tryz.prog W = .ok (.bool false) W := fun _ => rfl
  have hSt := fun X wb (hX : Below w.heap.size w X) (hwb : w.heap.size ≤ wb) (hw : DwAt X wb db sum 0 0 false) => settle_none hsum 0 hall X (Nat.le_trans hlo hX.size) (ht.next (hX.mono hlo)) hw (fun e => by have := (hSl _ e).2; omega) (Nat.le_trans hlo hwb) (h.later hX)
  obtain ⟨r, hr⟩ : ∃ r, newR d sum = r := ⟨_, rfl⟩
  rw [hr] at hO
  simp only [hr] at hSt
  replace hSt := Hid.mk hSt
  go_enter Tryz.func24, Tryz.ntmps24
  go_wp2_with (go_at_call 49; refine hN.mono ?_; rintro e w1 ⟨hb1, hm1⟩; rw [hbl] at hm1; subst hm1)
  have bA := hb1.alloc hb1.size (.cells #[.int .u32 0, .slice none 0 0, .slice none 0 0, .int .i64 0] 123)
  have bB := bA.alloc bA.size (.cells #[.pointer (some ⟨db, 0, none⟩), .int .u32 (sum : Int), .int .i64 0, .int .i64 0, .bool false] 80)
  have rj := heap_new w1 (.cells #[.int .u32 0, .slice none 0 0, .slice none 0 0, .int .i64 0] 123)
  have rw' := heap_new (w1.alloc (.cells #[.int .u32 0, .slice none 0 0, .slice none 0 0, .int .i64 0] 123)) (.cells #[.pointer (some ⟨db, 0, none⟩), .int .u32 (sum : Int), .int .i64 0, .int .i64 0, .bool false] 80)
  rw [World.size_alloc] at rw'
  have rj' := (Below.heap_alloc (w1.alloc (.cells #[.int .u32 0, .slice none 0 0, .slice none 0 0, .int .i64 0] 123)) (.cells #[.pointer (some ⟨db, 0, none⟩), .int .u32 (sum : Int), .int .i64 0, .int .i64 0, .bool false] 80) w1.heap.size (by simp)).trans rj
  generalize (w1.alloc (.cells #[.int .u32 0, .slice none 0 0, .slice none 0 0, .int .i64 0] 123)).alloc (.cells #[.pointer (some ⟨db, 0, none⟩), .int .u32 (sum : Int), .int .i64 0, .int .i64 0, .bool false] 80) = w2 at *
  have hw1l := hb1.size
  refine (hSt.out w2 (w1.heap.size + 1) bB (by omega) rw').mono ?_
  rintro e w3 ⟨rfl, S3, hD3, hv3, hw3⟩
  have hjl : w1.heap.size < w2.heap.size := (Array.getElem?_eq_some_iff.1 rj').1
  have hwl : w1.heap.size + 1 < w2.heap.size := (Array.getElem?_eq_some_iff.1 rw').1
  have rj3 := (hv3.gr.block w1.heap.size hjl (fun e => by
    rcases e with e | e
    · have := (hSl _ e).2; omega
    · omega)).trans rj'
  have j1 := cell_of_row _ _ 1 _ _ _ rj3
  have j2 := cell_of_row _ _ 2 _ _ _ rj3
  simp only [List.getElem?_toArray, List.getElem?_cons_zero, List.getElem?_cons_succ] at j1 j2
  have hDv : Dv S w S3 w3 := ⟨⟨hv3.gr.os.trans bB.os, hv3.gr.tape.trans bB.tape, hv3.gr.output.trans bB.output, Nat.le_trans bB.size hv3.gr.size, fun k hk hn => (hv3.gr.block k (Nat.lt_of_lt_of_le hk bB.size) (fun e => by
      rcases e with e | e
      · exact hn e
      · omega)).trans (bB.block k hk)⟩, fun k hk => by
      rcases hv3.sub k hk with e | e
      · exact .inl e
      · exact .inr (Nat.le_trans bB.size e)⟩
  have hnS : ¬ S3 (w1.heap.size + 1) := fun e => by
    rcases hv3.sub _ e with e | e
    · have := (hSl _ e).2; omega
    · omega
  by_cases h0 : r.1 = 0
  · have h0' : ((r.1 : Int) != 0) = false := by rw [h0]; rfl
    rw [if_neg (fun x => x h0)] at hO
    have hP : ∀ m, Hid (OpP lo db S d sum w (.returned (.tuple #[.pointer (some ⟨w1.heap.size + 1, 0, none⟩), .slice none 0 0, .slice none 0 0, .int .i64 0])) (w3.drewN m)) := fun m => ⟨S3, by rw [hO]; exact hD3.later (below_drewN (Below.refl _ _) _), Dv.trans hDv (.below (below_drewN (Below.refl _ _) _)), by
      rw [hO]
      exact ⟨w1.heap.size + 1, none, 0, none, 0, rfl, rfl, by omega, (hw3 h0).later (below_drewN (Below.refl _ _) _), hnS, World.ownsRow_nil _ _ _ _, .nil _ _⟩⟩
    clear hw3 hD3 hv3 hDv rj3 rj rj' rw' hN hSt hO h0
    go_wp2_with fail
    go_quiet (fail)
    go_wp2
    exact op_ret rfl rfl rfl rfl (hP _).out
  · have h0' : ((r.1 : Int) != 0) = true := by rw [bne_iff_ne]; omega
    rw [if_pos h0] at hO
    have hP : Hid (OpP lo db S d sum w (.returned (.tuple #[.pointer none, .slice none 0 0, .slice none 0 0, .int .i64 (r.1 : Nat)])) w3) := ⟨S3, by rw [hO]; exact hD3, hDv, by rw [hO]; exact ⟨rfl, h0⟩⟩
    clear hw3 hD3 hv3 hDv rj3 rj rj' rw' hN hSt hO h0
    go_wp2
    exact op_ret rfl rfl rfl rfl hP.out
end Go.Proofs.YtakcdgeanbpllaaGreatDoor.DJ


/- Open, of a journal. -/
namespace Go.Proofs.YtakcdgeanbpllaaGreatDoor.DJ
open Go.RowKit

set_option maxRecDepth 4000 in
set_option maxHeartbeats 2000000 in
theorem open_old {lo db : Nat} {S : Nat → Prop} {d : Dk} (sum : Nat) (hsum : sum < 4294967296) (hd : d.down = false) {f : Fl} (hb : best d.fs = some f) (hall : ∀ f ∈ d.fs, ∃ k, k ≤ 99999999 ∧ f.nm = Nm k) (w : World) (hlo : lo ≤ w.heap.size) (ht : TabL lo w) (h : DiskAt w lo S db d) :
    Calls Tryz.prog 24 #[.pointer (some ⟨db, 0, none⟩), .int .u32 (sum : Int)] w (OpP lo db S d sum w) := by
  have hN := newest_any hall w h
  have hSl := h.low
  have hbl : lastGood d.fs = some f := by
    obtain ⟨mb, D, fb, vv, hL⟩ := h
    rw [← best_eq hL.ok.srt]; exact hb
  obtain ⟨hfm, hfg, hfw⟩ := lastGood_mem hbl
  obtain ⟨hg0, hg1, hg9⟩ := genOf_pos hfg
  obtain ⟨g, hg⟩ : ∃ g, genOf f.nm = g := ⟨_, rfl⟩
  rw [hg] at hg0 hg1 hg9
  obtain ⟨⟨s, k, bd⟩, hw0⟩ := Option.isSome_iff_exists.1 hfw
  have hwl := whole_len hw0
  have hdl : f.dat.length ≤ 2097152 := by
    obtain ⟨mb, D, fb, vv, hL⟩ := h
    exact hL.ok.siz f hfm
  have k5 : w.cell? ⟨db, 5, none⟩ = some (.bool false) := by
    obtain ⟨mb, D, fb, vv, hL⟩ := h
    rw [cell_of_row _ _ 5 _ _ _ hL.row, hd]; rfl
  have hnil : ∀ W : World, (binOp BinOp.eql 27 (.pointer (some ⟨db, 0, none⟩)) (.pointer none)).run Tryz.prog W = .ok (.bool false) W := fun _ => rfl
  have hgI : (0 : Int) < (g : Int) := by omega
  have hsz : 18 + bd.length + (recs s (f.dat.drop (18 + bd.length)) 1).2 ≤ f.dat.length := by
    have := recs_le s (f.dat.drop (18 + bd.length)) 1
    rw [List.length_drop] at this
    omega
  have hO : openD d sum = if s ≠ sum then (198, none, d) else if (mend d f (18 + bd.length + (recs s (f.dat.drop (18 + bd.length)) 1).2)).1 ≠ 0 then ((mend d f (18 + bd.length + (recs s (f.dat.drop (18 + bd.length)) 1).2)).1, none, (mend d f (18 + bd.length + (recs s (f.dat.drop (18 + bd.length)) 1).2)).2) else (0, some (g, bd, (recs s (f.dat.drop (18 + bd.length)) 1).1), (mend d f (18 + bd.length + (recs s (f.dat.drop (18 + bd.length)) 1).2)).2) := by
    unfold openD
    rw [hd, hb]
    simp only [hw0, hg, Bool.false_eq_true, if_false]
    by_cases e : s = sum
    · subst e; rfl
    · rw [if_pos e, if_pos e]
  have hSt := fun X wb n (hX : Below w.heap.size w X) (hwb : w.heap.size ≤ wb) (hw : DwAt X wb db sum g n false) => settle_some hg1 hg9 hfm hg0 _ hsz hall X (Nat.le_trans hlo hX.size) (ht.next (hX.mono hlo)) hw (fun e => by have := (hSl _ e).2; omega) (h.later hX)
  obtain ⟨n, hn⟩ : ∃ n, 18 + bd.length + (recs s (f.dat.drop (18 + bd.length)) 1).2 = n := ⟨_, rfl⟩
  obtain ⟨R, hR⟩ : ∃ R, (recs s (f.dat.drop (18 + bd.length)) 1).1 = R := ⟨_, rfl⟩
  obtain ⟨r, hr⟩ : ∃ r, mend d f n = r := ⟨_, rfl⟩
  simp only [hn, hR, hr] at hO hSt
  have hNw : Hid (∀ e X, NwP d.fs w e X → ∃ sa sc ra rc, e = .returned (.tuple #[.int .i64 (g : Int), .agg #[.int .u32 (s : Int), .slice sa bd.length sc, .slice ra R.length rc, .int .i64 (n : Int)]]) ∧ Below w.heap.size w X ∧ X.ownsRow w.heap.size 5 1 (.slice sa bd.length sc) bd.length (bysV bd) ∧ RcO X w.heap.size (.slice ra R.length rc) R) := ⟨fun e X hX => by
    obtain ⟨hb1, hm⟩ := hX
    rw [hbl] at hm
    obtain ⟨s', k', bd', sv, rv, hw', he, ho, hrc⟩ := hm
    rw [hw0] at hw'
    cases hw'
    rw [hn, hg] at he
    rw [hR] at hrc
    obtain ⟨sa, sc, rfl⟩ := own_lenB ho
    obtain ⟨ra, rc, rfl, -, -, -⟩ := hrc.len
    exact ⟨sa, sc, ra, rc, he, hb1, ho, hrc⟩⟩
  have hRl : R.length ≤ 2097152 := by
    rw [← hR]
    have := recs_cnt s (f.dat.drop (18 + bd.length)) 1
    rw [List.length_drop] at this
    omega
  replace hSt := Hid.mk hSt
  replace hO := Hid.mk hO
  clear hn hR hr hsz hfg hfw hg hbl hb hall ht hw0 hwl hdl
  by_cases hss : s = sum
  case neg =>
    have hss' : ((s : Int) != (sum : Int)) = true := by rw [bne_iff_ne]; omega
    have hP : ∀ X, Below w.heap.size w X → Hid (OpP lo db S d sum w (.returned (.tuple #[.pointer none, .slice none 0 0, .slice none 0 0, .int .i64 198])) X) := fun X hX => ⟨S, by rw [hO.out, if_pos hss]; exact h.later hX, .below hX, by rw [hO.out, if_pos hss]; exact ⟨rfl, fun e => by cases e⟩⟩
    clear hss hSt
    go_enter Tryz.func24, Tryz.ntmps24
    go_wp2_with (go_at_call 49; refine hN.mono ?_; intro e w1 hm1; obtain ⟨sa, sc, ra, rc, rfl, hb1, ho1, hr1⟩ := hNw.out _ _ hm1; clear hm1)
    exact op_ret rfl rfl rfl rfl (hP _ (hb1.alloc hb1.size _)).out
  subst hss
  have hss' : ((s : Int) != (s : Int)) = false := by simp
  go_enter Tryz.func24, Tryz.ntmps24
  go_wp2_with (go_at_call 49; refine hN.mono ?_; intro e w1 hm1; obtain ⟨sa, sc, ra, rc, rfl, hb1, ho1, hr1⟩ := hNw.out _ _ hm1; clear hm1)
  have bA := hb1.alloc hb1.size (.cells #[.int .u32 (s : Int), .slice sa bd.length sc, .slice ra R.length rc, .int .i64 (n : Int)] 123)
  have bB := bA.alloc bA.size (.cells #[.pointer (some ⟨db, 0, none⟩), .int .u32 (s : Int), .int .i64 (g : Int), .int .i64 (R.length : Int), .bool false] 80)
  have rj := heap_new w1 (.cells #[.int .u32 (s : Int), .slice sa bd.length sc, .slice ra R.length rc, .int .i64 (n : Int)] 123)
  have rw' := heap_new (w1.alloc (.cells #[.int .u32 (s : Int), .slice sa bd.length sc, .slice ra R.length rc, .int .i64 (n : Int)] 123)) (.cells #[.pointer (some ⟨db, 0, none⟩), .int .u32 (s : Int), .int .i64 (g : Int), .int .i64 (R.length : Int), .bool false] 80)
  rw [World.size_alloc] at rw'
  have rj' := (Below.heap_alloc (w1.alloc (.cells #[.int .u32 (s : Int), .slice sa bd.length sc, .slice ra R.length rc, .int .i64 (n : Int)] 123)) (.cells #[.pointer (some ⟨db, 0, none⟩), .int .u32 (s : Int), .int .i64 (g : Int), .int .i64 (R.length : Int), .bool false] 80) w1.heap.size (by simp)).trans rj
  have b12 : Below w1.heap.size w1 ((w1.alloc (.cells #[.int .u32 (s : Int), .slice sa bd.length sc, .slice ra R.length rc, .int .i64 (n : Int)] 123)).alloc (.cells #[.pointer (some ⟨db, 0, none⟩), .int .u32 (s : Int), .int .i64 (g : Int), .int .i64 (R.length : Int), .bool false] 80)) := ((Below.refl _ _).alloc (Nat.le_refl _) _).alloc (by simp) _
  generalize (w1.alloc (.cells #[.int .u32 (s : Int), .slice sa bd.length sc, .slice ra R.length rc, .int .i64 (n : Int)] 123)).alloc (.cells #[.pointer (some ⟨db, 0, none⟩), .int .u32 (s : Int), .int .i64 (g : Int), .int .i64 (R.length : Int), .bool false] 80) = w2 at *
  have hw1l := hb1.size
  refine (hSt.out w2 (w1.heap.size + 1) R.length bB (by omega) rw').mono ?_
  rintro e w3 ⟨rfl, S3, hD3, hv3⟩
  have hjl : w1.heap.size < w2.heap.size := (Array.getElem?_eq_some_iff.1 rj').1
  have hwl : w1.heap.size + 1 < w2.heap.size := (Array.getElem?_eq_some_iff.1 rw').1
  have hnot : ∀ x, w.heap.size ≤ x → ¬ S x := fun x hx e => by have := (hSl _ e).2; omega
  have rj3 := (hv3.gr.block w1.heap.size hjl (hnot _ hw1l)).trans rj'
  have j1 := cell_of_row _ _ 1 _ _ _ rj3
  have j2 := cell_of_row _ _ 2 _ _ _ rj3
  simp only [List.getElem?_toArray, List.getElem?_cons_zero, List.getElem?_cons_succ] at j1 j2
  have hDv : Dv S w S3 w3 := Dv.trans (.below bB) hv3
  have hnS : ¬ S3 (w1.heap.size + 1) := fun e => by
    rcases hv3.sub _ e with e | e
    · exact hnot _ (by omega) e
    · omega
  have hw3 : DwAt w3 (w1.heap.size + 1) db s g R.length false := (hv3.gr.block _ hwl (hnot _ (by omega))).trans rw'
  have ho3 := hv3.gr.own (own_later ho1 b12) (fun x hx => hnot x (own_rowT ho1 hx).1)
  have hr3 := (hr1.later b12).grS hv3.gr (fun x _ _ hx _ _ => hnot x hx)
  have hO2 := hO.out
  rw [if_neg (fun x => x rfl)] at hO2
  by_cases h0 : r.1 = 0
  · have h0' : ((r.1 : Int) != 0) = false := by rw [h0]; rfl
    rw [if_neg (fun x => x h0)] at hO2
    have hP : ∀ m, Hid (OpP lo db S d s w (.returned (.tuple #[.pointer (some ⟨w1.heap.size + 1, 0, none⟩), .slice sa bd.length sc, .slice ra R.length rc, .int .i64 0])) (w3.drewN m)) := fun m => ⟨S3, by rw [hO2]; exact hD3.later (below_drewN (Below.refl _ _) _), Dv.trans hDv (.below (below_drewN (Below.refl _ _) _)), by
      rw [hO2]
      exact ⟨w1.heap.size + 1, sa, sc, ra, rc, rfl, rfl, by omega, hw3.later (below_drewN (Below.refl _ _) _), hnS, own_later ho3 (below_drewN (Below.refl _ _) _), hr3.later (below_drewN (Below.refl _ _) _)⟩⟩
    clear hw3 hD3 hv3 hDv rj3 rj rj' rw' hN hSt hO hO2 h0 ho3 hr3 ho1 hr1 hNw
    go_wp2_with fail
    go_quiet (fail)
    go_wp2
    exact op_ret rfl rfl rfl rfl (hP _).out
  · have h0' : ((r.1 : Int) != 0) = true := by rw [bne_iff_ne]; omega
    rw [if_pos h0] at hO2
    have hP : Hid (OpP lo db S d s w (.returned (.tuple #[.pointer none, .slice none 0 0, .slice none 0 0, .int .i64 (r.1 : Nat)])) w3) := ⟨S3, by rw [hO2]; exact hD3, hDv, by rw [hO2]; exact ⟨rfl, h0⟩⟩
    clear hw3 hD3 hv3 hDv rj3 rj rj' rw' hN hSt hO hO2 h0 ho3 hr3 ho1 hr1 hNw
    go_wp2
    exact op_ret rfl rfl rfl rfl hP.out

theorem open_any {lo db : Nat} {S : Nat → Prop} {d : Dk} (sum : Nat) (hsum : sum < 4294967296) (hall : ∀ f ∈ d.fs, ∃ k, k ≤ 99999999 ∧ f.nm = Nm k) (w : World) (hlo : lo ≤ w.heap.size) (ht : TabL lo w) (h : DiskAt w lo S db d) :
    Calls Tryz.prog 24 #[.pointer (some ⟨db, 0, none⟩), .int .u32 (sum : Int)] w (OpP lo db S d sum w) := by
  cases hd : d.down with
  | true => exact open_down sum hd w h
  | false =>
    cases hb : best d.fs with
    | none => exact open_new sum hsum hd hb hall w hlo ht h
    | some f => exact open_old sum hsum hd hb hall w hlo ht h
end Go.Proofs.YtakcdgeanbpllaaGreatDoor.DJ


/- The law's world: begin. -/
namespace Go.Proofs.YtakcdgeanbpllaaGreatDoor.DJ
open Go.RowKit

theorem TabL.mono {lo lo' : Nat} {w : World} (h : TabL lo w) (hl : lo ≤ lo') : TabL lo' w := fun X hX => h X (hX.mono hl)
theorem Lay.mono {W : World} {lo lo' : Nat} {S : Nat → Prop} {db : Nat} {d : Dk} {mb : Nat} {D : DataW Nat} {fb : List Nat → Nat} {vv : List Nat → Value} (h : Lay W lo S db d mb D fb vv) (hl : lo' ≤ lo) : Lay W lo' S db d mb D fb vv :=
  { h with
    fil := fun f hf => ⟨(h.fil f hf).row, (h.fil f hf).dat.mono hl⟩
    low := fun k hk => Nat.le_trans hl (h.low k hk) }
theorem DiskAt.mono {W : World} {lo lo' : Nat} {S : Nat → Prop} {db : Nat} {d : Dk} (h : DiskAt W lo S db d) (hl : lo' ≤ lo) : DiskAt W lo' S db d := by
  obtain ⟨mb, D, fb, vv, h⟩ := h
  exact ⟨mb, D, fb, vv, h.mono hl⟩

/-- The law's world. -/
def wdRow (db : Nat) (wp : Option Addr) (sum : Nat) (sv rv lv fv : Value) (soft : Bool) : Obj := .cells #[.pointer (some ⟨db, 0, none⟩), .pointer wp, .int .u32 (sum : Int), sv, rv, lv, fv, .bool soft] 32 (0, 0)

set_option maxRecDepth 4000 in
set_option maxHeartbeats 1000000 in
theorem begin_any (sum : Nat) (w : World) :
    Calls Tryz.prog 8 #[.int .u32 (sum : Int)] w fun e w' => ∃ S db ub, e = .returned (.pointer (some ⟨ub, 0, none⟩)) ∧ DiskAt w' w.heap.size S db dk0 ∧ w'.heap[ub]? = some (wdRow db none sum (.slice none 0 0) (.slice none 0 0) (.slice none 0 0) (.slice none 0 0) false) ∧ ¬ S ub ∧ w.heap.size ≤ ub ∧ Below w.heap.size w w' := by
  have hN := newDisk_nil 0 none w
  have hnil : ∀ (b : Nat) (W : World), (binOp BinOp.eql 27 (.pointer (some ⟨b, 0, none⟩)) (.pointer none)).run Tryz.prog W = .ok (.bool false) W := fun _ _ => rfl
  go_enter Tryz.func8, Tryz.ntmps8
  go_wp2_with (go_at_call 26; refine hN.mono ?_; rintro e w1 ⟨S, db, rfl, hD, hb⟩)
  go_ret
  have hl := hD.low
  exact ⟨S, db, w1.heap.size, rfl, hD.later ((Below.refl _ _).alloc (Nat.le_refl _) _), heap_new w1 _, fun e => by have := (hl _ e).2; omega, hb.size, hb.alloc hb.size _⟩
end Go.Proofs.YtakcdgeanbpllaaGreatDoor.DJ

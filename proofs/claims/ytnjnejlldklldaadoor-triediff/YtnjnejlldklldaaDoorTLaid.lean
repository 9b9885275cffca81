import Derived.Test.YtnjnejlldklldaaDoorTOne
namespace Go.Proofs.YtnjnejlldklldaaDoor
open Go.RowKit

theorem del_snoc (P : List (Nat × (Int × Int))) (e : Nat × (Int × Int)) (id : Nat) : del (P ++ [e]) id = del P id ++ (if e.1 = id then [] else [e]) := by
  unfold del
  rw [List.filter_append]
  by_cases h : e.1 = id <;> simp [h]
theorem less_of {P : List (Nat × (Int × Int))} {id : Nat} (h : ∀ e ∈ P, e.1 ≤ id) : P.filter (fun e => decide (e.1 < id)) = del P id := by
  unfold del
  refine List.filter_congr fun e he => ?_
  have := h e he
  rw [decide_eq_decide]
  omega
theorem more_none {P : List (Nat × (Int × Int))} {id : Nat} (h : ∀ e ∈ P, e.1 ≤ id) : P.filter (fun e => decide (id < e.1)) = [] := by
  rw [List.filter_eq_nil_iff]
  intro e he
  have := h e he
  simp
  omega
theorem ins_all {P : List (Nat × (Int × Int))} {id : Nat} (v : Int × Int) (h : ∀ e ∈ P, e.1 ≤ id) : ins P id v = del P id ++ [(id, v)] := by
  unfold ins
  rw [less_of h, more_none h]
theorem ins_above {P : List (Nat × (Int × Int))} {e : Nat × (Int × Int)} {id : Nat} (v : Int × Int) (h : id < e.1) : ins (P ++ [e]) id v = ins P id v ++ [e] := by
  unfold ins
  rw [List.filter_append, List.filter_append]
  have h1 : ¬ e.1 < id := by omega
  simp [h, h1]
theorem ins_at {P : List (Nat × (Int × Int))} {e : Nat × (Int × Int)} {id : Nat} (v : Int × Int) (h : e.1 = id) : ins (P ++ [e]) id v = ins P id v := by
  unfold ins
  rw [List.filter_append, List.filter_append]
  simp [h]

/-- What laid has of the first entries. -/
def LaidI (id : Nat) (v : Int × Int) (gone : Bool) (P out : List (Nat × (Int × Int))) (dn : Bool) : Prop :=
  (gone = true ∧ dn = true ∧ out = del P id) ∨ (gone = false ∧ dn = true ∧ out = ins P id v ∧ ∃ e ∈ P, id < e.1) ∨ (gone = false ∧ dn = false ∧ out = del P id ∧ ∀ e ∈ P, e.1 ≤ id)

theorem laid_start (id : Nat) (v : Int × Int) (gone : Bool) : LaidI id v gone [] [] gone := by
  cases gone
  · exact .inr (.inr ⟨rfl, rfl, rfl, by simp⟩)
  · exact .inl ⟨rfl, rfl, rfl⟩
theorem laid_skip {id : Nat} {v : Int × Int} {gone dn : Bool} {P out : List (Nat × (Int × Int))} {e : Nat × (Int × Int)} (h : LaidI id v gone P out dn) (he : e.1 = id) : LaidI id v gone (P ++ [e]) out dn := by
  rcases h with ⟨h1, h2, rfl⟩ | ⟨h1, h2, rfl, e0, h3, h4⟩ | ⟨h1, h2, rfl, h3⟩
  · exact .inl ⟨h1, h2, by rw [del_snoc, if_pos he, List.append_nil]⟩
  · exact .inr (.inl ⟨h1, h2, by rw [ins_at v he], e0, by simp [h3], h4⟩)
  · refine .inr (.inr ⟨h1, h2, by rw [del_snoc, if_pos he, List.append_nil], fun x hx => ?_⟩)
    rcases List.mem_append.1 hx with hx | hx
    · exact h3 x hx
    · obtain rfl : x = e := by simpa using hx
      omega
theorem laid_plain {id : Nat} {v : Int × Int} {gone dn : Bool} {P out : List (Nat × (Int × Int))} {e : Nat × (Int × Int)} (hR : Rises (P ++ [e])) (h : LaidI id v gone P out dn) (he : e.1 ≠ id) (hd : dn = true ∨ ¬ id < e.1) : LaidI id v gone (P ++ [e]) (out ++ [e]) dn := by
  rcases h with ⟨h1, h2, rfl⟩ | ⟨h1, h2, rfl, e0, h3, h4⟩ | ⟨h1, h2, rfl, h3⟩
  · exact .inl ⟨h1, h2, by rw [del_snoc, if_neg he]⟩
  · have := (List.pairwise_append.1 hR).2.2 e0 h3 e (by simp)
    exact .inr (.inl ⟨h1, h2, by rw [ins_above v (by omega)], e0, by simp [h3], h4⟩)
  · have hle : ¬ id < e.1 := by
      rcases hd with hd | hd
      · rw [h2] at hd; cases hd
      · exact hd
    refine .inr (.inr ⟨h1, h2, by rw [del_snoc, if_neg he], fun x hx => ?_⟩)
    rcases List.mem_append.1 hx with hx | hx
    · exact h3 x hx
    · obtain rfl : x = e := by simpa using hx
      omega
theorem laid_put {id : Nat} {v : Int × Int} {gone : Bool} {P out : List (Nat × (Int × Int))} {e : Nat × (Int × Int)} (h : LaidI id v gone P out false) (he : id < e.1) : LaidI id v gone (P ++ [e]) (out ++ [(id, v)] ++ [e]) true := by
  rcases h with ⟨-, h2, -⟩ | ⟨-, h2, -⟩ | ⟨h1, -, rfl, h3⟩
  · cases h2
  · cases h2
  · exact .inr (.inl ⟨h1, rfl, by rw [ins_above v he, ins_all v h3], e, by simp, he⟩)
theorem laid_done {id : Nat} {v : Int × Int} {gone : Bool} {P out : List (Nat × (Int × Int))} (h : LaidI id v gone P out true) : out = stepL P id v gone := by
  rcases h with ⟨h1, -, h3⟩ | ⟨h1, -, h3, -⟩ | ⟨-, h2, -⟩
  · rw [h3, stepL, if_pos h1]
  · rw [h3, stepL, if_neg (by simp [h1])]
  · cases h2
theorem laid_last {id : Nat} {v : Int × Int} {gone : Bool} {P out : List (Nat × (Int × Int))} (h : LaidI id v gone P out false) : out ++ [(id, v)] = stepL P id v gone := by
  rcases h with ⟨-, h2, -⟩ | ⟨-, h2, -⟩ | ⟨h1, -, rfl, h3⟩
  · cases h2
  · cases h2
  · rw [stepL, if_neg (by simp [h1]), ins_all v h3]
theorem laid_length {id : Nat} {v : Int × Int} {gone dn : Bool} {P out : List (Nat × (Int × Int))} (h : LaidI id v gone P out dn) : out.length ≤ P.length + 1 := by
  have hi := length_ins P id v
  have hd := length_del P id
  rcases h with ⟨-, -, rfl⟩ | ⟨-, -, rfl, -⟩ | ⟨-, -, rfl, -⟩ <;> omega

theorem one3 (k : Nat) (x y : Int) : ∀ u ∈ ([.int .u32 (k : Int), .int .i64 x, .int .i64 y] : List Value), u.oneCell' = true := by
  intro u hu
  simp at hu
  rcases hu with rfl | rfl | rfl <;> rfl
theorem own_base {w : World} {base base' n size : Nat} {e : TypeId} {v : Value} {xs : List Value} (h : w.ownsRow base e size v n xs) (hb : base' ≤ base) : w.ownsRow base' e size v n xs := by
  obtain ⟨h1, h2 | ⟨g, cap, cur, h3, h4, h5⟩⟩ := h
  · exact ⟨h1, .inl h2⟩
  · exact ⟨h1, .inr ⟨g, cap, cur, h3, by omega, h5⟩⟩
theorem appended {V A X B : World} {base k : Nat} {x y : Int} {v v' : Value} {out : List (Nat × (Int × Int))} (hA : A = X.alloc (.cells #[.int .u32 (k : Int), .int .i64 x, .int .i64 y] 47)) (hs : base ≤ X.heap.size) (hown : X.ownsRow base 47 3 v out.length (flat3 out)) (hB : Below base V X) (hown' : B.ownsRow base 47 3 v' (out.length + 1) (flat3 out ++ [.int .u32 (k : Int), .int .i64 x, .int .i64 y])) (hg : A.grownBy B v.ownBlock) :
    B.ownsRow base 47 3 v' (out ++ [(k, (x, y))]).length (flat3 (out ++ [(k, (x, y))])) ∧ Below base V B ∧ base ≤ B.heap.size := by
  subst hA
  have hb := (hB.alloc hs (.cells #[.int .u32 (k : Int), .int .i64 x, .int .i64 y] 47)).grown hg (by simp; omega) (fun k hk => (hown.lt k hk).1)
  refine ⟨?_, hb, ?_⟩
  · rw [List.length_append, flat3_snoc]
    exact hown'
  · have := hg.size
    simp at this
    omega

set_option maxRecDepth 4000 in
set_option maxHeartbeats 1000000 in
theorem laid_any (vl : Value) (L : List (Nat × (Int × Int))) (hR : Rises L) (hl : L.length ≤ 1000000) (id : Nat) (x y : Int) (gone : Bool) (w : World) (h : EntsAt w vl L) :
    Calls Tryd.prog 15 #[vl, .agg #[.int .u32 (id : Int), .int .i64 x, .int .i64 y, .bool gone]] w fun e w' => ∃ ev, e = .returned ev ∧ w'.ownsRow w.heap.size 47 3 ev (stepL L id (x, y) gone).length (flat3 (stepL L id (x, y) gone)) ∧ Below w.heap.size w w' := by
  obtain ⟨aa, ca, rfl, hda⟩ := h
  have hb1 := (Below.refl w.heap.size w).alloc (Nat.le_refl _) (.cells #[.int .u32 (id : Int), .int .i64 x, .int .i64 y, .bool gone] 27)
  have hs1 : (w.alloc (.cells #[.int .u32 (id : Int), .int .i64 x, .int .i64 y, .bool gone] 27)).heap.size = w.heap.size + 1 := by simp
  have hX0 := heap_alloc_last w (.cells #[.int .u32 (id : Int), .int .i64 x, .int .i64 y, .bool gone] 27)
  go_enter Tryd.func15, Tryd.ntmps15
  go_wp2
  generalize w.alloc (.cells #[.int .u32 (id : Int), .int .i64 x, .int .i64 y, .bool gone] 27) = V at *
  obtain ⟨i0, hi, hz0, hz1, hz2⟩ := info_parts infoE
  go_loopw [5, 6, 7] (fun ov dv i wr => ∃ (j : Nat) (out : List (Nat × (Int × Int))) (dn : Bool), j ≤ L.length ∧ i = .int .i64 j ∧ dv = .bool dn ∧ LaidI id (x, y) gone (L.take j) out dn ∧ wr.ownsRow (w.heap.size + 1) 47 3 ov out.length (flat3 out) ∧ Below (w.heap.size + 1) V wr) (fun _ _ i _ => L.length - (intOf i).toNat)
  case atStart => exact ⟨0, [], gone, by omega, rfl, rfl, laid_start id (x, y) gone, World.ownsRow_nil _ _ _ _, Below.refl _ _⟩
  case round =>
    obtain ⟨j, out, dn, hj, rfl, rfl, hI, hown, hB⟩ := hrel
    have hXr := (hB.block w.heap.size (by omega)).trans hX0
    have x0 : wr.cell? ⟨w.heap.size, 0, none⟩ = some (.int .u32 (id : Int)) := cell_of_row _ _ 0 _ _ _ hXr
    have x1 : wr.cell? ⟨w.heap.size, 1, none⟩ = some (.int .i64 x) := cell_of_row _ _ 1 _ _ _ hXr
    have x2 : wr.cell? ⟨w.heap.size, 2, none⟩ = some (.int .i64 y) := cell_of_row _ _ 2 _ _ _ hXr
    have hlo : out.length ≤ 1000001 := by have := laid_length hI; rw [List.length_take] at this; omega
    by_cases hlt : j < L.length
    · have hlt' : (j : Int) < L.length := by omega
      have hj0 : (0 : Int) ≤ (j : Int) := by omega
      rcases hda with h0 | ⟨ga, oa, rfl, hga, hca⟩
      · rw [h0] at hlt; simp at hlt
      have hBw : Below w.heap.size w wr := hb1.trans (hB.mono (by omega))
      obtain ⟨q0, q1, q2⟩ := hca j hlt
      have a0 := (hBw.cell (p := ⟨ga, oa + j * 3, none⟩) hga).trans q0
      have a1 := (hBw.cell (p := ⟨ga, oa + j * 3 + 1, none⟩) hga).trans q1
      have a2 := (hBw.cell (p := ⟨ga, oa + j * 3 + 2, none⟩) hga).trans q2
      have htk : L.take (j + 1) = L.take j ++ [L[j]] := List.take_succ_eq_append_getElem hlt
      have hRt : Rises (L.take j ++ [L[j]]) := by rw [← htk]; exact List.Pairwise.sublist (List.take_sublist _ _) hR
      have hsA : w.heap.size + 1 ≤ wr.heap.size := by have := hB.size; omega
      clear hca
      obtain ⟨e, he⟩ : ∃ e, L[j] = e := ⟨_, rfl⟩
      rw [he] at a0 a1 a2 q0 q1 q2 htk hRt
      obtain ⟨k, ex, ey⟩ := e
      simp only at a0 a1 a2 q0 q1 q2
      have hHk : Hid (L.take (j + 1) = L.take j ++ [(k, (ex, ey))]) := htk
      have hHR : Hid (Rises (L.take j ++ [(k, (ex, ey))])) := hRt
      clear htk hRt he
      by_cases hk : k = id
      · have hkk : ((k : Int) == (id : Int)) = true := by rw [hk]; simp
        go_wp2
        go_quiet (fail)
        have hbq := below_drewN (Below.refl wr.heap.size wr) nq
        go_wp2
        go_roundw
        case rel => exact ⟨j + 1, out, dn, by omega, by go_num, rfl, by rw [hHk.out]; exact laid_skip hI hk, own_laterB hown hbq, below_drewN hB nq⟩
        case measure => simp [intOf]; omega
      · have hkk : ((k : Int) == (id : Int)) = false := by simp; omega
        cases dn with
        | true =>
          go_wp2
          go_quiet (fail)
          have hq := below_drewN (Below.refl wr.heap.size wr) nq
          have hsB := Nat.le_trans hsA hq.size
          have a0 := (hq.cell (p := ⟨ga, oa + j * 3, none⟩) (show ga < _ by omega)).trans a0
          have a1 := (hq.cell (p := ⟨ga, oa + j * 3 + 1, none⟩) (show ga < _ by omega)).trans a1
          have a2 := (hq.cell (p := ⟨ga, oa + j * 3 + 2, none⟩) (show ga < _ by omega)).trans a2
          have x0 := (hq.cell (p := ⟨w.heap.size, 0, none⟩) (show w.heap.size < _ by omega)).trans x0
          have x1 := (hq.cell (p := ⟨w.heap.size, 1, none⟩) (show w.heap.size < _ by omega)).trans x1
          have x2 := (hq.cell (p := ⟨w.heap.size, 2, none⟩) (show w.heap.size < _ by omega)).trans x2
          have hown := own_laterB hown hq
          have hB := below_drewN hB nq
          clear hq hsA
          have hsA := hsB
          clear hsB
          generalize wr.drewN nq = w6 at *
          go_wp2
          go_quiet (fail)
          have hq := below_drewN (Below.refl w6.heap.size w6) nq
          have hsB := Nat.le_trans hsA hq.size
          have a0 := (hq.cell (p := ⟨ga, oa + j * 3, none⟩) (show ga < _ by omega)).trans a0
          have a1 := (hq.cell (p := ⟨ga, oa + j * 3 + 1, none⟩) (show ga < _ by omega)).trans a1
          have a2 := (hq.cell (p := ⟨ga, oa + j * 3 + 2, none⟩) (show ga < _ by omega)).trans a2
          have x0 := (hq.cell (p := ⟨w.heap.size, 0, none⟩) (show w.heap.size < _ by omega)).trans x0
          have x1 := (hq.cell (p := ⟨w.heap.size, 1, none⟩) (show w.heap.size < _ by omega)).trans x1
          have x2 := (hq.cell (p := ⟨w.heap.size, 2, none⟩) (show w.heap.size < _ by omega)).trans x2
          have hown := own_laterB hown hq
          have hB := below_drewN hB nq
          clear hq hsA
          have hsA := hsB
          clear hsB
          generalize w6.drewN nq = w7 at *
          go_wp2_with (at_builtin; refine wpList_append_own _ rfl _ _ 38 rfl (w.heap.size + 1) 47 i0 _ 3 24 Tryd.underlying38 hi hz0 hz1 hz2 rfl (by decide) _ (out).length (flat3 (out)) rfl (hown.alloc _) ⟨w7.heap.size, 0, none⟩ 1 1 [.int .u32 (k : Int), .int .i64 ex, .int .i64 ey] rfl rfl (cells3_at w7 _ rfl _ _ _ _) (one3 k ex ey) (by unfold maxLen; omega) (by omega) (Nat.le_trans hsA (by simp)) ?_; intro v8 w8 hown8 hgrow8 _; obtain ⟨hown, hB, hsA⟩ := appended rfl hsA hown hB hown8 hgrow8; clear hown8 hgrow8)
          go_roundw
          case rel => exact ⟨j + 1, out ++ [(k, (ex, ey))], true, by omega, by go_num, rfl, by rw [hHk.out]; exact laid_plain hHR.out hI hk (.inl rfl), hown, hB⟩
          case measure => simp [intOf]; omega
        | false =>
          by_cases hlk : id < k
          · have hlk1 : (id : Int) < (k : Int) := by omega
            go_wp2
            go_quiet (fail)
            have hq := below_drewN (Below.refl wr.heap.size wr) nq
            have hsB := Nat.le_trans hsA hq.size
            have a0 := (hq.cell (p := ⟨ga, oa + j * 3, none⟩) (show ga < _ by omega)).trans a0
            have a1 := (hq.cell (p := ⟨ga, oa + j * 3 + 1, none⟩) (show ga < _ by omega)).trans a1
            have a2 := (hq.cell (p := ⟨ga, oa + j * 3 + 2, none⟩) (show ga < _ by omega)).trans a2
            have x0 := (hq.cell (p := ⟨w.heap.size, 0, none⟩) (show w.heap.size < _ by omega)).trans x0
            have x1 := (hq.cell (p := ⟨w.heap.size, 1, none⟩) (show w.heap.size < _ by omega)).trans x1
            have x2 := (hq.cell (p := ⟨w.heap.size, 2, none⟩) (show w.heap.size < _ by omega)).trans x2
            have hown := own_laterB hown hq
            have hB := below_drewN hB nq
            clear hq hsA
            have hsA := hsB
            clear hsB
            generalize wr.drewN nq = w6 at *
            go_wp2
            go_quiet (fail)
            have hq := below_drewN (Below.refl w6.heap.size w6) nq
            have hsB := Nat.le_trans hsA hq.size
            have a0 := (hq.cell (p := ⟨ga, oa + j * 3, none⟩) (show ga < _ by omega)).trans a0
            have a1 := (hq.cell (p := ⟨ga, oa + j * 3 + 1, none⟩) (show ga < _ by omega)).trans a1
            have a2 := (hq.cell (p := ⟨ga, oa + j * 3 + 2, none⟩) (show ga < _ by omega)).trans a2
            have x0 := (hq.cell (p := ⟨w.heap.size, 0, none⟩) (show w.heap.size < _ by omega)).trans x0
            have x1 := (hq.cell (p := ⟨w.heap.size, 1, none⟩) (show w.heap.size < _ by omega)).trans x1
            have x2 := (hq.cell (p := ⟨w.heap.size, 2, none⟩) (show w.heap.size < _ by omega)).trans x2
            have hown := own_laterB hown hq
            have hB := below_drewN hB nq
            clear hq hsA
            have hsA := hsB
            clear hsB
            generalize w6.drewN nq = w7 at *
            have tok : True := trivial
            go_wp2_with (first | (at_builtin; have _t := tok; refine wpList_append_own _ rfl _ _ 38 rfl (w.heap.size + 1) 47 i0 _ 3 24 Tryd.underlying38 hi hz0 hz1 hz2 rfl (by decide) _ (out).length (flat3 (out)) rfl (hown.alloc _) ⟨w7.heap.size, 0, none⟩ 1 1 [.int .u32 (id : Int), .int .i64 x, .int .i64 y] rfl rfl (cells3_at w7 _ rfl _ _ _ _) (one3 id x y) (by unfold maxLen; omega) (by omega) (Nat.le_trans hsA (by simp)) ?_; intro v8 w8 hown8 hgrow8 _; obtain ⟨hown, hB, hsA⟩ := appended rfl hsA hown hB hown8 hgrow8; clear hown8 hgrow8; have hBw := hb1.trans (hB.mono (Nat.le_succ _)); have a0 := (hBw.cell (p := ⟨ga, oa + j * 3, none⟩) hga).trans q0; have a1 := (hBw.cell (p := ⟨ga, oa + j * 3 + 1, none⟩) hga).trans q1; have a2 := (hBw.cell (p := ⟨ga, oa + j * 3 + 2, none⟩) hga).trans q2; have hlo : (out ++ [(id, (x, y))]).length ≤ 1000002 := by { rw [List.length_append]; simp; omega }; have u8 := tok; clear tok) | (at_builtin; refine wpList_append_own _ rfl _ _ 38 rfl (w.heap.size + 1) 47 i0 _ 3 24 Tryd.underlying38 hi hz0 hz1 hz2 rfl (by decide) _ (out ++ [(id, (x, y))]).length (flat3 (out ++ [(id, (x, y))])) rfl (hown.alloc _) ⟨w8.heap.size, 0, none⟩ 1 1 [.int .u32 (k : Int), .int .i64 ex, .int .i64 ey] rfl rfl (cells3_at w8 _ rfl _ _ _ _) (one3 k ex ey) (by unfold maxLen; omega) (by omega) (Nat.le_trans hsA (by simp)) ?_; intro v9 w9 hown9 hgrow9 _; obtain ⟨hown, hB, hsA⟩ := appended rfl hsA hown hB hown9 hgrow9; clear hown9 hgrow9))
            go_roundw
            case rel => exact ⟨j + 1, out ++ [(id, (x, y))] ++ [(k, (ex, ey))], true, by omega, by go_num, rfl, by rw [hHk.out]; exact laid_put hI hlk, hown, hB⟩
            case measure => simp [intOf]; omega
          · have hlk1 : decide ((id : Int) < (k : Int)) = false := by simp; omega
            go_wp2
            go_quiet (fail)
            have hq := below_drewN (Below.refl wr.heap.size wr) nq
            have hsB := Nat.le_trans hsA hq.size
            have a0 := (hq.cell (p := ⟨ga, oa + j * 3, none⟩) (show ga < _ by omega)).trans a0
            have a1 := (hq.cell (p := ⟨ga, oa + j * 3 + 1, none⟩) (show ga < _ by omega)).trans a1
            have a2 := (hq.cell (p := ⟨ga, oa + j * 3 + 2, none⟩) (show ga < _ by omega)).trans a2
            have x0 := (hq.cell (p := ⟨w.heap.size, 0, none⟩) (show w.heap.size < _ by omega)).trans x0
            have x1 := (hq.cell (p := ⟨w.heap.size, 1, none⟩) (show w.heap.size < _ by omega)).trans x1
            have x2 := (hq.cell (p := ⟨w.heap.size, 2, none⟩) (show w.heap.size < _ by omega)).trans x2
            have hown := own_laterB hown hq
            have hB := below_drewN hB nq
            clear hq hsA
            have hsA := hsB
            clear hsB
            generalize wr.drewN nq = w6 at *
            go_wp2
            go_quiet (fail)
            have hq := below_drewN (Below.refl w6.heap.size w6) nq
            have hsB := Nat.le_trans hsA hq.size
            have a0 := (hq.cell (p := ⟨ga, oa + j * 3, none⟩) (show ga < _ by omega)).trans a0
            have a1 := (hq.cell (p := ⟨ga, oa + j * 3 + 1, none⟩) (show ga < _ by omega)).trans a1
            have a2 := (hq.cell (p := ⟨ga, oa + j * 3 + 2, none⟩) (show ga < _ by omega)).trans a2
            have x0 := (hq.cell (p := ⟨w.heap.size, 0, none⟩) (show w.heap.size < _ by omega)).trans x0
            have x1 := (hq.cell (p := ⟨w.heap.size, 1, none⟩) (show w.heap.size < _ by omega)).trans x1
            have x2 := (hq.cell (p := ⟨w.heap.size, 2, none⟩) (show w.heap.size < _ by omega)).trans x2
            have hown := own_laterB hown hq
            have hB := below_drewN hB nq
            clear hq hsA
            have hsA := hsB
            clear hsB
            generalize w6.drewN nq = w7 at *
            go_wp2_with (at_builtin; refine wpList_append_own _ rfl _ _ 38 rfl (w.heap.size + 1) 47 i0 _ 3 24 Tryd.underlying38 hi hz0 hz1 hz2 rfl (by decide) _ (out).length (flat3 (out)) rfl (hown.alloc _) ⟨w7.heap.size, 0, none⟩ 1 1 [.int .u32 (k : Int), .int .i64 ex, .int .i64 ey] rfl rfl (cells3_at w7 _ rfl _ _ _ _) (one3 k ex ey) (by unfold maxLen; omega) (by omega) (Nat.le_trans hsA (by simp)) ?_; intro v8 w8 hown8 hgrow8 _; obtain ⟨hown, hB, hsA⟩ := appended rfl hsA hown hB hown8 hgrow8; clear hown8 hgrow8)
            go_roundw
            case rel => exact ⟨j + 1, out ++ [(k, (ex, ey))], false, by omega, by go_num, rfl, by rw [hHk.out]; exact laid_plain hHR.out hI hk (.inr hlk), hown, hB⟩
            case measure => simp [intOf]; omega
    · have hlt' : ¬ (j : Int) < L.length := by omega
      have hsA : w.heap.size + 1 ≤ wr.heap.size := by have := hB.size; omega
      obtain rfl : j = L.length := by omega
      rw [List.take_length] at hI
      cases dn with
      | true =>
        obtain rfl := laid_done hI
        go_wp2
        go_ret
        exact ⟨_, rfl, own_base hown (by omega), hb1.trans (hB.mono (Nat.le_succ _))⟩
      | false =>
        have hst := laid_last hI
        go_wp2_with (at_builtin; refine wpList_append_own _ rfl _ _ 38 rfl (w.heap.size + 1) 47 i0 _ 3 24 Tryd.underlying38 hi hz0 hz1 hz2 rfl (by decide) _ (out).length (flat3 (out)) rfl (hown.alloc _) ⟨wr.heap.size, 0, none⟩ 1 1 [.int .u32 (id : Int), .int .i64 x, .int .i64 y] rfl rfl (cells3_at wr _ rfl _ _ _ _) (one3 id x y) (by unfold maxLen; omega) (by omega) (Nat.le_trans hsA (by simp)) ?_; intro v8 w8 hown8 hgrow8 _; obtain ⟨hown, hB, hsA⟩ := appended rfl hsA hown hB hown8 hgrow8; clear hown8 hgrow8)
        rw [hst] at hown
        go_ret
        exact ⟨_, rfl, own_base hown (by omega), hb1.trans (hB.mono (Nat.le_succ _))⟩

end Go.Proofs.YtnjnejlldklldaaDoor

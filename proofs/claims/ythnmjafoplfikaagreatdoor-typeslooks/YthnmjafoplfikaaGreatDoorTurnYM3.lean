import Derived.Test.YthnmjafoplfikaaGreatDoorTurnYM2
namespace Go.Proofs.YthnmjafoplfikaaGreatDoor
open Go.RowKit

theorem chain_0 (s : Nat) (w : World) : ((opsOf 6 Tryz.f72)[16]?).map (fun o => (execOp (opFin s).eval o).run Tryz.prog w) = some (.ok (.enter 92 #[.int .i64 62]) w) := by kernel_rfl
theorem chain_1 (s : Nat) (w : World) : ((opsOf 6 Tryz.f72)[19]?).map (fun o => (execOp (opFin s).eval o).run Tryz.prog w) = some (.ok (.enter 92 #[.int .i64 6]) w) := by kernel_rfl
theorem chain_2 (s : Nat) (w : World) : ((opsOf 6 Tryz.f72)[22]?).map (fun o => (execOp (opFin s).eval o).run Tryz.prog w) = some (.ok (.enter 92 #[.int .i64 22]) w) := by kernel_rfl
theorem chain_3 (s : Nat) (w : World) : ((opsOf 6 Tryz.f72)[25]?).map (fun o => (execOp (opFin s).eval o).run Tryz.prog w) = some (.ok (.enter 92 #[.int .i64 22]) w) := by kernel_rfl
theorem chain_4 (s : Nat) (w : World) : ((opsOf 6 Tryz.f72)[28]?).map (fun o => (execOp (opFin s).eval o).run Tryz.prog w) = some (.ok (.enter 92 #[.int .i64 8]) w) := by kernel_rfl
theorem chain_5 (s : Nat) (w : World) : ((opsOf 6 Tryz.f72)[31]?).map (fun o => (execOp (opFin s).eval o).run Tryz.prog w) = some (.ok (.enter 92 #[.int .i64 8]) w) := by kernel_rfl
theorem chain_6 (s : Nat) (w : World) : ((opsOf 6 Tryz.f72)[107]?).map (fun o => (execOp (opFin s).eval o).run Tryz.prog w) = some (.ok (.enter 88 #[.int .i64 1]) w) := by kernel_rfl
theorem last_run (s : Nat) (w : World) : ((opsOf 6 Tryz.f72)[130]?).map (fun o => (execOp (opFin s).eval o).run Tryz.prog w) = some (.ok (.value (.slice (some ⟨w.heap.size, 0, none⟩) 42 42)) (w.alloc (.cells (opTable s).flatten.toArray 179))) := by kernel_rfl
theorem dst_list : (opsOf 6 Tryz.f72).toList.map (·.dst) = (List.range 131).map (fun i => some (39 + i)) ++ [some 0] := by kernel_rfl
theorem kinds_all : (opsOf 6 Tryz.f72).toList.map (fun o => isPure o || isLoad o) = (List.range 132).map (fun i => !([16, 19, 22, 25, 28, 31, 107, 130].contains i)) := by kernel_rfl
theorem allocs_app : ∀ (l : List (Array Value × TypeId)) (x : Array Value × TypeId) (W : World), allocs W (l ++ [x]) = (allocs W l).alloc (.cells x.1 x.2)
  | [], _, _ => rfl
  | y :: l, x, W => allocs_app l x (W.alloc (.cells y.1 y.2))
def stW (W : World) (k : Nat) : World := allocs (allocs W lits).drew ((clits W.heap.size).take k)
theorem drew_cell (W : World) (a : Addr) : W.drew.cell? a = W.cell? a := rfl
theorem drew_size (W : World) : W.drew.heap.size = W.heap.size := rfl
theorem stW_size (W : World) {k : Nat} (h : k ≤ 8) : (stW W k).heap.size = W.heap.size + 22 + k := by
  unfold stW
  rw [allocs_size, drew_size, allocs_size, List.length_take]
  show W.heap.size + 22 + min k 8 = _
  omega
theorem stW_lc (W : World) (k : Nat) : Lc W.heap.size (stW W k) := fun b j hb => by
  have h1 : Below (allocs W lits).drew.heap.size (allocs W lits).drew (stW W k) := allocs_below _ _ _ (Nat.le_refl _)
  have hs : (allocs W lits).drew.heap.size = W.heap.size + 22 := by rw [drew_size, allocs_size]; rfl
  rw [bel_cell h1 (by rw [hs]; omega)]
  rw [drew_cell, allocs_cell lits W b j hb]
  exact congrArg (fun x : Array Value × TypeId => x.1.toList[j]?) (by rw [List.getD_eq_getElem?_getD, List.getElem?_eq_getElem (show b < lits.length from hb), Option.getD_some]; rfl)
theorem stW_succ (W : World) {k : Nat} (h : k < 8) : stW W (k + 1) = (stW W k).alloc (.cells ((clits W.heap.size)[k]'h).1 ((clits W.heap.size)[k]'h).2) := by
  unfold stW
  rw [List.take_add_one, List.getElem?_eq_getElem (show k < (clits W.heap.size).length from h)]
  exact allocs_app _ _ _
theorem slot_same (s : Nat) : ∀ (t : Nat), 1 ≤ t → t < 39 → (opBeg s).eval (.tmp t) = (opFin s).eval (.tmp t)
  | 1, _, _ => rfl
  | 2, _, _ => rfl
  | 3, _, _ => rfl
  | 4, _, _ => rfl
  | 5, _, _ => rfl
  | 6, _, _ => rfl
  | 7, _, _ => rfl
  | 8, _, _ => rfl
  | 9, _, _ => rfl
  | 10, _, _ => rfl
  | 11, _, _ => rfl
  | 12, _, _ => rfl
  | 13, _, _ => rfl
  | 14, _, _ => rfl
  | 15, _, _ => rfl
  | 16, _, _ => rfl
  | 17, _, _ => rfl
  | 18, _, _ => rfl
  | 19, _, _ => rfl
  | 20, _, _ => rfl
  | 21, _, _ => rfl
  | 22, _, _ => rfl
  | 23, _, _ => rfl
  | 24, _, _ => rfl
  | 25, _, _ => rfl
  | 26, _, _ => rfl
  | 27, _, _ => rfl
  | 28, _, _ => rfl
  | 29, _, _ => rfl
  | 30, _, _ => rfl
  | 31, _, _ => rfl
  | 32, _, _ => rfl
  | 33, _, _ => rfl
  | 34, _, _ => rfl
  | 35, _, _ => rfl
  | 36, _, _ => rfl
  | 37, _, _ => rfl
  | 38, _, _ => rfl
  | 0, h, _ => absurd h (by decide)
  | t + 39, _, h => absurd h (by omega)
theorem slot_out (s t : Nat) (h : 170 ≤ t) : (opBeg s).eval (.tmp t) = (opFin s).eval (.tmp t) := by
  have h1 : (opBeg s).tmps.size = 170 := by kernel_rfl
  have h2 : (opFin s).tmps.size = 170 := by kernel_rfl
  simp only [Act.eval]
  rw [Array.getD_eq_getD_getElem?, Array.getD_eq_getD_getElem?, Array.getElem?_eq_none (by omega), Array.getElem?_eq_none (by omega)]
theorem dst_at (i : Nat) (h : i < 132) : ∃ o, (opsOf 6 Tryz.f72)[i]? = some o ∧ o.dst = some (if i < 131 then 39 + i else 0) := by
  have hl := dst_list
  have hn : i < (opsOf 6 Tryz.f72).size := by rw [show (opsOf 6 Tryz.f72).size = 132 by kernel_rfl]; exact h
  refine ⟨_, Array.getElem?_eq_getElem hn, ?_⟩
  have := congrArg (fun l => l[i]?) hl
  simp only [List.getElem?_map, Array.getElem?_toList, Array.getElem?_eq_getElem hn, Option.map_some] at this
  by_cases hi : i < 131
  · rw [if_pos hi]
    rw [List.getElem?_append_left (by simp; exact hi)] at this
    simp [hi] at this
    exact this
  · obtain rfl : i = 131 := by omega
    rw [if_neg hi]
    exact Option.some.inj this
theorem op_cases (i : Nat) (o : Oper) (ho : (opsOf 6 Tryz.f72)[i]? = some o) (h : i ∉ [16, 19, 22, 25, 28, 31, 107, 130]) : isPure o = true ∨ isLoad o = true := by
  have hn : i < (opsOf 6 Tryz.f72).size := (Array.getElem?_eq_some_iff.1 ho).1
  have hn2 : i < 132 := by rw [show (opsOf 6 Tryz.f72).size = 132 by kernel_rfl] at hn; exact hn
  have := congrArg (fun l => l[i]?) kinds_all
  simp only [List.getElem?_map, Array.getElem?_toList, ho, Option.map_some, List.getElem?_range hn2] at this
  have h2 := Option.some.inj this
  have h3 : [16, 19, 22, 25, 28, 31, 107, 130].contains i = false := by
    cases hc : [16, 19, 22, 25, 28, 31, 107, 130].contains i with
    | false => rfl
    | true => exact absurd (by simpa using hc) h
  rw [h3] at h2
  simpa using h2

theorem case_0 (W : World) (Q : Exit → Act → World → Prop) (o : Oper) (d : Nat) (ho : (opsOf 6 Tryz.f72)[16]? = some o) (hd : o.dst = some d) (b : Act) (K : Act → World → Prop) (he : execOp b.eval o = execOp (opFin W.heap.size).eval o) (hK : K (b.put o.dst ((opFin W.heap.size).eval (.tmp d))) (stW W 1)) : o.wp Tryz.prog b (stW W 0) K Q := by
  obtain ⟨o', ho', hd'⟩ := dst_at 16 (by omega)
  rw [ho] at ho'
  cases ho'
  rw [hd] at hd'
  have hd' : d = 55 := Option.some.inj hd'
  subst hd'
  have hv : (opFin W.heap.size).eval (.tmp 55) = .func (Fn.func 121) #[] #[.pointer (some ⟨(W.heap.size + 22), 0, none⟩)] := by kernel_rfl
  rw [hv, stW_succ W (by omega)] at hK
  have hr := chain_0 W.heap.size (stW W 0)
  rw [ho] at hr
  have hr := Option.some.inj hr
  dsimp only at hr
  unfold Oper.wp
  rw [he, hr, Oper.upon_enter]
  refine (ofLine_any 62 (stW W 0)).mono ?_
  rintro e w1 ⟨rfl, rfl⟩
  rw [stW_size W (by omega)]
  exact hK
theorem case_1 (W : World) (Q : Exit → Act → World → Prop) (o : Oper) (d : Nat) (ho : (opsOf 6 Tryz.f72)[19]? = some o) (hd : o.dst = some d) (b : Act) (K : Act → World → Prop) (he : execOp b.eval o = execOp (opFin W.heap.size).eval o) (hK : K (b.put o.dst ((opFin W.heap.size).eval (.tmp d))) (stW W 2)) : o.wp Tryz.prog b (stW W 1) K Q := by
  obtain ⟨o', ho', hd'⟩ := dst_at 19 (by omega)
  rw [ho] at ho'
  cases ho'
  rw [hd] at hd'
  have hd' : d = 58 := Option.some.inj hd'
  subst hd'
  have hv : (opFin W.heap.size).eval (.tmp 58) = .func (Fn.func 121) #[] #[.pointer (some ⟨(W.heap.size + 23), 0, none⟩)] := by kernel_rfl
  rw [hv, stW_succ W (by omega)] at hK
  have hr := chain_1 W.heap.size (stW W 1)
  rw [ho] at hr
  have hr := Option.some.inj hr
  dsimp only at hr
  unfold Oper.wp
  rw [he, hr, Oper.upon_enter]
  refine (ofLine_any 6 (stW W 1)).mono ?_
  rintro e w1 ⟨rfl, rfl⟩
  rw [stW_size W (by omega)]
  exact hK
theorem case_2 (W : World) (Q : Exit → Act → World → Prop) (o : Oper) (d : Nat) (ho : (opsOf 6 Tryz.f72)[22]? = some o) (hd : o.dst = some d) (b : Act) (K : Act → World → Prop) (he : execOp b.eval o = execOp (opFin W.heap.size).eval o) (hK : K (b.put o.dst ((opFin W.heap.size).eval (.tmp d))) (stW W 3)) : o.wp Tryz.prog b (stW W 2) K Q := by
  obtain ⟨o', ho', hd'⟩ := dst_at 22 (by omega)
  rw [ho] at ho'
  cases ho'
  rw [hd] at hd'
  have hd' : d = 61 := Option.some.inj hd'
  subst hd'
  have hv : (opFin W.heap.size).eval (.tmp 61) = .func (Fn.func 121) #[] #[.pointer (some ⟨(W.heap.size + 24), 0, none⟩)] := by kernel_rfl
  rw [hv, stW_succ W (by omega)] at hK
  have hr := chain_2 W.heap.size (stW W 2)
  rw [ho] at hr
  have hr := Option.some.inj hr
  dsimp only at hr
  unfold Oper.wp
  rw [he, hr, Oper.upon_enter]
  refine (ofLine_any 22 (stW W 2)).mono ?_
  rintro e w1 ⟨rfl, rfl⟩
  rw [stW_size W (by omega)]
  exact hK
theorem case_3 (W : World) (Q : Exit → Act → World → Prop) (o : Oper) (d : Nat) (ho : (opsOf 6 Tryz.f72)[25]? = some o) (hd : o.dst = some d) (b : Act) (K : Act → World → Prop) (he : execOp b.eval o = execOp (opFin W.heap.size).eval o) (hK : K (b.put o.dst ((opFin W.heap.size).eval (.tmp d))) (stW W 4)) : o.wp Tryz.prog b (stW W 3) K Q := by
  obtain ⟨o', ho', hd'⟩ := dst_at 25 (by omega)
  rw [ho] at ho'
  cases ho'
  rw [hd] at hd'
  have hd' : d = 64 := Option.some.inj hd'
  subst hd'
  have hv : (opFin W.heap.size).eval (.tmp 64) = .func (Fn.func 121) #[] #[.pointer (some ⟨(W.heap.size + 25), 0, none⟩)] := by kernel_rfl
  rw [hv, stW_succ W (by omega)] at hK
  have hr := chain_3 W.heap.size (stW W 3)
  rw [ho] at hr
  have hr := Option.some.inj hr
  dsimp only at hr
  unfold Oper.wp
  rw [he, hr, Oper.upon_enter]
  refine (ofLine_any 22 (stW W 3)).mono ?_
  rintro e w1 ⟨rfl, rfl⟩
  rw [stW_size W (by omega)]
  exact hK
theorem case_4 (W : World) (Q : Exit → Act → World → Prop) (o : Oper) (d : Nat) (ho : (opsOf 6 Tryz.f72)[28]? = some o) (hd : o.dst = some d) (b : Act) (K : Act → World → Prop) (he : execOp b.eval o = execOp (opFin W.heap.size).eval o) (hK : K (b.put o.dst ((opFin W.heap.size).eval (.tmp d))) (stW W 5)) : o.wp Tryz.prog b (stW W 4) K Q := by
  obtain ⟨o', ho', hd'⟩ := dst_at 28 (by omega)
  rw [ho] at ho'
  cases ho'
  rw [hd] at hd'
  have hd' : d = 67 := Option.some.inj hd'
  subst hd'
  have hv : (opFin W.heap.size).eval (.tmp 67) = .func (Fn.func 121) #[] #[.pointer (some ⟨(W.heap.size + 26), 0, none⟩)] := by kernel_rfl
  rw [hv, stW_succ W (by omega)] at hK
  have hr := chain_4 W.heap.size (stW W 4)
  rw [ho] at hr
  have hr := Option.some.inj hr
  dsimp only at hr
  unfold Oper.wp
  rw [he, hr, Oper.upon_enter]
  refine (ofLine_any 8 (stW W 4)).mono ?_
  rintro e w1 ⟨rfl, rfl⟩
  rw [stW_size W (by omega)]
  exact hK
theorem case_5 (W : World) (Q : Exit → Act → World → Prop) (o : Oper) (d : Nat) (ho : (opsOf 6 Tryz.f72)[31]? = some o) (hd : o.dst = some d) (b : Act) (K : Act → World → Prop) (he : execOp b.eval o = execOp (opFin W.heap.size).eval o) (hK : K (b.put o.dst ((opFin W.heap.size).eval (.tmp d))) (stW W 6)) : o.wp Tryz.prog b (stW W 5) K Q := by
  obtain ⟨o', ho', hd'⟩ := dst_at 31 (by omega)
  rw [ho] at ho'
  cases ho'
  rw [hd] at hd'
  have hd' : d = 70 := Option.some.inj hd'
  subst hd'
  have hv : (opFin W.heap.size).eval (.tmp 70) = .func (Fn.func 121) #[] #[.pointer (some ⟨(W.heap.size + 27), 0, none⟩)] := by kernel_rfl
  rw [hv, stW_succ W (by omega)] at hK
  have hr := chain_5 W.heap.size (stW W 5)
  rw [ho] at hr
  have hr := Option.some.inj hr
  dsimp only at hr
  unfold Oper.wp
  rw [he, hr, Oper.upon_enter]
  refine (ofLine_any 8 (stW W 5)).mono ?_
  rintro e w1 ⟨rfl, rfl⟩
  rw [stW_size W (by omega)]
  exact hK
theorem case_6 (W : World) (Q : Exit → Act → World → Prop) (o : Oper) (d : Nat) (ho : (opsOf 6 Tryz.f72)[107]? = some o) (hd : o.dst = some d) (b : Act) (K : Act → World → Prop) (he : execOp b.eval o = execOp (opFin W.heap.size).eval o) (hK : K (b.put o.dst ((opFin W.heap.size).eval (.tmp d))) (stW W 7)) : o.wp Tryz.prog b (stW W 6) K Q := by
  obtain ⟨o', ho', hd'⟩ := dst_at 107 (by omega)
  rw [ho] at ho'
  cases ho'
  rw [hd] at hd'
  have hd' : d = 146 := Option.some.inj hd'
  subst hd'
  have hv : (opFin W.heap.size).eval (.tmp 146) = .func (Fn.func 120) #[] #[.pointer (some ⟨(W.heap.size + 28), 0, none⟩)] := by kernel_rfl
  rw [hv, stW_succ W (by omega)] at hK
  have hr := chain_6 W.heap.size (stW W 6)
  rw [ho] at hr
  have hr := Option.some.inj hr
  dsimp only at hr
  unfold Oper.wp
  rw [he, hr, Oper.upon_enter]
  refine (ofArg_any 1 (stW W 6)).mono ?_
  rintro e w1 ⟨rfl, rfl⟩
  rw [stW_size W (by omega)]
  exact hK
theorem case_7 (W : World) (Q : Exit → Act → World → Prop) (o : Oper) (d : Nat) (ho : (opsOf 6 Tryz.f72)[130]? = some o) (hd : o.dst = some d) (b : Act) (K : Act → World → Prop) (he : execOp b.eval o = execOp (opFin W.heap.size).eval o) (hK : K (b.put o.dst ((opFin W.heap.size).eval (.tmp d))) (stW W 8)) : o.wp Tryz.prog b (stW W 7) K Q := by
  obtain ⟨o', ho', hd'⟩ := dst_at 130 (by omega)
  rw [ho] at ho'
  cases ho'
  rw [hd] at hd'
  have hd' : d = 169 := Option.some.inj hd'
  subst hd'
  have hv : (opFin W.heap.size).eval (.tmp 169) = .slice (some ⟨(W.heap.size + 29), 0, none⟩) 42 42 := by kernel_rfl
  rw [hv, stW_succ W (by omega)] at hK
  have hr := last_run W.heap.size (stW W 7)
  rw [ho] at hr
  have hr := Option.some.inj hr
  dsimp only at hr
  unfold Oper.wp
  rw [he, hr, Oper.upon_value, stW_size W (by omega)]
  exact hK
set_option maxRecDepth 20000 in
theorem ops_region (W : World) (Q : Exit → Act → World → Prop) (hend : Q .normal (opFin W.heap.size) (stW W 8)) : (Code.region 6 (opsOf 6 Tryz.f72) true).wp Tryz.prog Q (opBeg W.heap.size) (allocs W lits) := by
  refine wp_region_det (nt := 170) (af := opFin W.heap.size) (ch := [16, 19, 22, 25, 28, 31, 107, 130]) (St := stW W) (by kernel_rfl) reg_ok (by exact Nat.le_of_eq (by kernel_rfl)) (by kernel_rfl) rfl (fun (t : Nat) ht => ?_) rfl (fun i o d ho hd hi k => ?_) (fun k i o d hk ho hd b K he hK => ?_) hend
  · by_cases h0 : (t : Nat) = (0 : Nat)
    · obtain ⟨o, ho, hd⟩ := dst_at 131 (by omega)
      exact absurd hd (by rw [if_neg (by omega), h0.symm]; exact ht 131 o ho)
    · by_cases h1 : t < 39
      · exact slot_same _ t (Nat.pos_of_ne_zero h0) h1
      · by_cases h2 : t < 170
        · obtain ⟨o, ho, hd⟩ := dst_at (t - 39) (by omega)
          exact absurd hd (by rw [if_pos (by omega), show 39 + (t - 39) = t by omega]; exact ht _ o ho)
        · exact slot_out _ t (by omega)
  · have hm : o ∈ (opsOf 6 Tryz.f72).toList := by simpa using Array.mem_of_getElem? ho
    have hdd : o.dst.getD 0 = d := by rw [hd]; rfl
    rcases op_cases i o ho hi with h | h
    · have := (List.map_inj_left.1 (pure_run W.heap.size (stW W k))) o (List.mem_filter.2 ⟨hm, h⟩)
      rw [hdd] at this
      exact this
    · have := load_run W.heap.size (stW W k) (stW_lc W k) o (List.mem_filter.2 ⟨hm, h⟩)
      rw [hdd] at this
      exact this
  · rcases k with _ | _ | _ | _ | _ | _ | _ | _ | k
    · obtain rfl : i = 16 := by simpa using hk.symm
      exact case_0 W Q o d ho hd b K he hK
    · obtain rfl : i = 19 := by simpa using hk.symm
      exact case_1 W Q o d ho hd b K he hK
    · obtain rfl : i = 22 := by simpa using hk.symm
      exact case_2 W Q o d ho hd b K he hK
    · obtain rfl : i = 25 := by simpa using hk.symm
      exact case_3 W Q o d ho hd b K he hK
    · obtain rfl : i = 28 := by simpa using hk.symm
      exact case_4 W Q o d ho hd b K he hK
    · obtain rfl : i = 31 := by simpa using hk.symm
      exact case_5 W Q o d ho hd b K he hK
    · obtain rfl : i = 107 := by simpa using hk.symm
      exact case_6 W Q o d ho hd b K he hK
    · obtain rfl : i = 130 := by simpa using hk.symm
      exact case_7 W Q o d ho hd b K he hK
    · simp at hk
end Go.Proofs.YthnmjafoplfikaaGreatDoor

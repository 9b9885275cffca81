import Derived.Test.YtmnnaghamiioaaaDoorWKnown
import Derived.Test.YtmnnaghamiioaaaDoorWLoc3
import Derived.Test.YtmnnaghamiioaaaDoorWLaid5
import Derived.Laws.AppendOwnNone
import Derived.Laws.OwnMore
namespace Go.Proofs.YtmnnaghamiioaaaDoor.Q
open Go.RowKit Go.Shelf

theorem wpList_unguard {P : Program} {ops : Array Oper} {Q : Exit → Act → World → Prop} {a : Act} {w : World} {rest : List Oper} {o : Oper} (hw : Region.wanted o (yielded ops a.tmps) = true) (h : wpList P ops Q ({ o with guard := none } :: rest) a w) : wpList P ops Q (o :: rest) a w := by
  unfold wpList at h ⊢
  rw [if_pos hw]
  rw [if_pos (by simp [Region.wanted])] at h
  exact h
theorem tokLs_len (L : List Itm) : (tokLs L).length = L.length * 5 := by
  induction L with
  | nil => rfl
  | cons x L ih =>
    show (tokL x ++ tokLs L).length = _
    rw [List.length_append, ih, List.length_cons]
    show 5 + _ = _
    omega
theorem tokLs_app (L M : List Itm) : tokLs (L ++ M) = tokLs L ++ tokLs M := by simp [tokLs]
theorem toks_one (L : List Itm) : ∀ u ∈ tokLs L, u.oneCell' = true := by
  intro u hu
  obtain ⟨x, -, hx⟩ := List.mem_flatMap.1 hu
  exact tok_one x u hx
/-- 'append(l, m...)' of two rows of tokens. -/
theorem wpList_cat (w : World) {ops : Array Oper} {rest : List Oper} {o : Oper} {a : Act} {Q : Exit → Act → World → Prop} (hgd : o.guard = none) (s x : Operand)
    (ho : o.op = .call { callee := .builtin .append, args := #[s, x], argTypes := #[23, 23] }) (base : Nat) (hbase : base ≤ w.heap.size) (v : Value) (L : List Itm) (hs : a.eval s = v) (hv : w.ownsRow base 29 5 v L.length (tokLs L)) (base2 : Nat) (v2 : Value) (M : List Itm) (hx : a.eval x = v2) (hv2 : w.ownsRow base2 29 5 v2 M.length (tokLs M)) (hl : L.length ≤ 20000) (hm : M.length ≤ 20000)
    (h : ∀ v' w', w'.ownsRow base 29 5 v' (L ++ M).length (tokLs (L ++ M)) → w.grownBy w' v.ownBlock → wpList Tryd.prog ops Q rest (a.put o.dst v') w') : wpList Tryd.prog ops Q (o :: rest) a w := by
  obtain ⟨i0, hi, hz0, hz1, hz2⟩ := info_parts infoT
  have hv2' := hv2
  obtain ⟨-, ⟨rfl, h0⟩ | ⟨g, cap, cur, rfl, h1⟩⟩ := hv2'
  · have hM : M = [] := List.eq_nil_of_length_eq_zero h0
    subst hM
    refine wpList_plain hgd fun K hK => ?_
    have hr := run_append_owned_none (P := Tryd.prog) (w := w) base 23 o.type 29 i0 5 Tryd.underlying23 hi v L.length (tokLs L) hv
    unfold Oper.wp execOp
    simp only [ho, resolve, invoke, builtin, Sem.run_bind, Sem.run_pure, Result.andThen_ok, List.map_toArray, List.map_cons, List.map_nil, hs, hx, hr]
    exact hK _ _ (h v w (by rw [List.append_nil]; exact hv) ⟨rfl, rfl, rfl, Nat.le_refl _, fun _ _ _ => rfl⟩)
  · refine wpList_append_own (P := Tryd.prog) w hgd s x 23 ho base 29 i0 _ 5 48 Tryd.underlying23 hi hz0 hz1 hz2 rfl (by decide) _ L.length (tokLs L) hs hv ⟨g, 0, none⟩ M.length cap (tokLs M) hx (tokLs_len M) (fun j u hj => hv2.cells rfl j u hj) (toks_one M) (by unfold maxLen; omega) (by omega) hbase ?_
    intro v' w' hown hgrow _
    exact h v' w' (by rw [tokLs_app, List.length_append]; exact hown) hgrow

theorem found_at (l : List UInt8) : ∀ (f p : Nat) (bg : Bool), p ≤ l.length → ∀ x ∈ foundP l f p bg, x.2.2 = 0 → x.2.1 ≤ l.length
  | 0, p, bg, _, x, hx, _ => by simp [foundP] at hx
  | f + 1, p, bg, hp, x, hx, h0 => by
    rw [fnd_eq] at hx
    by_cases hc : clsAt l p &&& 130 = 0
    · rw [if_pos hc] at hx
      cases hw : wordS l p with
      | error qe =>
        obtain ⟨q, c⟩ := qe
        rw [hw] at hx
        obtain rfl := List.mem_singleton.1 hx
        exact absurd h0 (wordS_err hw).1
      | ok we =>
        obtain ⟨w, e⟩ := we
        rw [hw] at hx
        have k2 := (wordS_ok hp hc hw).2
        rcases List.mem_cons.1 hx with rfl | hx
        · exact hp
        · exact found_at l f _ _ (nx_le k2) x hx h0
    · rw [if_neg hc] at hx
      rcases List.mem_append.1 hx with hx | hx
      · split at hx
        · obtain rfl := List.mem_singleton.1 hx
          exact hp
        · simp at hx
      · split at hx
        · simp at hx
        · rename_i hne
          exact found_at l f _ _ (nx_le (by omega)) x hx h0
theorem foundL_at (l : List UInt8) : ∀ x ∈ foundL l, x.2.2 = 0 → x.2.1 ≤ l.length := by
  intro x hx h0
  unfold foundL at hx
  split at hx
  · obtain rfl := List.mem_singleton.1 hx
    exact absurd h0 (by decide)
  · exact found_at l _ _ _ (nx_le (by omega)) x hx h0
theorem tokLs_set : ∀ (L : List Itm) (i : Nat) (hi : i < L.length) (z : Nat), (tokLs L).set (i * 5 + 1) (.int .i64 (z : Int)) = tokLs (L.set i (L[i].1, z, L[i].2.2))
  | [], i, hi, z => by simp at hi
  | x :: L, 0, hi, z => rfl
  | x :: L, i + 1, hi, z => by
    have ih := tokLs_set L i (by simpa using hi) z
    have e : ∀ (y : Itm) (M : List Itm), tokLs (y :: M) = tokL y ++ tokLs M := fun _ _ => rfl
    rw [e, List.set_append_right _ _ (by show 5 ≤ _; omega)]
    show tokL x ++ (tokLs L).set ((i + 1) * 5 + 1 - 5) _ = _
    rw [show (i + 1) * 5 + 1 - 5 = i * 5 + 1 from by omega, ih, List.set_cons_succ, e]
    rfl

/-- Scan, as the statements take it. -/
theorem scan_two (s : ByteArray) (w : World) (hC : Cls w) (hE : ErrR w) (hM : Mon w) (hS : Sgn w) : Calls Tryd.prog 6 #[.string s] w fun e w' => Below w.heap.size w w' ∧ ((∃ (q n : Nat), n ≠ 0 ∧ (∃ pre x, foundL s.data.toList = pre ++ [x] ∧ x.2.2 ≠ 0) ∧ e = .returned (.tuple #[.slice none 0 0, .int .i64 (q : Int), .int .i64 (n : Int)])) ∨ ((∀ x ∈ foundL s.data.toList, x.2.2 = 0) ∧ ∃ p c, e = .returned (.tuple #[.slice p (foundL s.data.toList).length c, .int .i64 0, .int .i64 0]) ∧ w'.ownsRow w.heap.size 29 5 (.slice p (foundL s.data.toList).length c) (foundL s.data.toList).length (tokLs (foundL s.data.toList)))) := by
  refine (scan_any s w hC hE hM hS).mono ?_
  rintro e w' ⟨hb, ⟨pre, x, hL, hx, rfl⟩ | ⟨hall, v, rfl, ho⟩⟩
  · exact ⟨hb, .inl ⟨_, _, hx, ⟨pre, x, hL, hx⟩, rfl⟩⟩
  · obtain ⟨p, c, rfl⟩ : ∃ p c, v = .slice p (foundL s.data.toList).length c := by
      obtain ⟨_, ⟨rfl, h0⟩ | ⟨g, cap, cur, rfl, _⟩⟩ := ho
      · rw [h0]; exact ⟨_, _, rfl⟩
      · exact ⟨_, _, rfl⟩
    exact ⟨hb, .inr ⟨hall, p, c, rfl, ho⟩⟩
theorem cat_list (a b : ByteArray) : (a ++ ⟨#[10]⟩ ++ b).data.toList = a.data.toList ++ 10 :: b.data.toList := by
  simp [ByteArray.data_append]

theorem own_lat {w w' : World} {base n size : Nat} {e : TypeId} {v : Value} {xs : List Value} (h : w.ownsRow base e size v n xs) (hb : Below w.heap.size w w') : w'.ownsRow base e size v n xs := h.kept (row := none) ⟨hb.os, hb.tape, hb.output, hb.size, fun k hk _ => hb.block k hk⟩ (by cases v.ownBlock <;> simp)
/-- Rows of which the one was made behind the other. -/
theorem own_apart {W V : World} {b1 b2 n1 n2 s1 s2 : Nat} {e1 e2 : TypeId} {v1 v2 : Value} {x1 x2 : List Value} (h1 : W.ownsRow b1 e1 s1 v1 n1 x1) (h2 : V.ownsRow b2 e2 s2 v2 n2 x2) (h : V.heap.size ≤ b1) : v1.ownBlock = none ∨ v1.ownBlock ≠ v2.ownBlock := by
  cases hv : v1.ownBlock with
  | none => exact .inl rfl
  | some k =>
    refine .inr (fun e => ?_)
    have h3 := (h1.lt k hv).1
    have h4 := (h2.lt k e.symm).2
    omega
theorem half_get {α : Type} {M L : List α} (h : M.length = L.length) {i : Nat} (hi : i < L.length) (h2 : i < (M.take i ++ L.drop i).length) : (M.take i ++ L.drop i)[i] = L[i] := by
  have hl : (M.take i).length = i := by rw [List.length_take]; omega
  rw [List.getElem_append_right (by omega)]
  simp [hl]
theorem half_set {α : Type} {M L : List α} (h : M.length = L.length) {i : Nat} (hi : i < L.length) : (M.take i ++ L.drop i).set i (M[i]'(by omega)) = M.take (i + 1) ++ L.drop (i + 1) := by
  have hl : (M.take i).length = i := by rw [List.length_take]; omega
  rw [List.set_append_right _ _ (by omega), hl, Nat.sub_self, List.drop_eq_getElem_cons hi, List.set_cons_zero, List.take_succ_eq_append_getElem (by omega), List.append_assoc]
  rfl

set_option maxRecDepth 4000 in
set_option maxHeartbeats 2000000 in
theorem joins_walkQ (a b : ByteArray) (ha : a.size ≤ 140737488351232) (hb : b.size ≤ 140737488351232) (w : World) (hT : Tabs w) : Calls Tryd.prog 4 #[.string a, .string b] w fun e w' => e = .returned (.bool true) ∧ Below w.heap.size w w' := by
  obtain ⟨hC, hE, hM, hS⟩ := hT
  have hk := known_any w hC hE hM hS
  by_cases hlong : (7999 : Int) < (a.size : Int) + (b.size : Int)
  · go_enter Tryd.func4, Tryd.ntmps4
    go_wp2_with (first | (go_at_call 5; refine hk.mono ?_; rintro e w1 ⟨rfl, hb1⟩))
    go_ret
    exact ⟨rfl, hb1⟩
  · have hla : a.size ≤ 7999 := by omega
    have hlb : b.size ≤ 7999 := by omega
    have hs1 := fun W (hb : Below w.heap.size w W) => scan_two a W (hC.later hb) (hE.later hb) (hM.later hb) (hS.later hb)
    have hs2 := fun W (hb : Below w.heap.size w W) => scan_two b W (hC.later hb) (hE.later hb) (hM.later hb) (hS.later hb)
    have hs3 := fun W (hb : Below w.heap.size w W) => scan_two (a ++ ⟨#[10]⟩ ++ b) W (hC.later hb) (hE.later hb) (hM.later hb) (hS.later hb)
    rw [cat_list] at hs3
    have hjoin := found_join a.data.toList b.data.toList (by rw [size_list, size_list]; omega)
    have hat := foundL_at b.data.toList
    rw [size_list] at hat hjoin
    have hla1 := foundL_len a.data.toList
    have hlb1 := foundL_len b.data.toList
    obtain ⟨La, hLa⟩ : ∃ La, foundL a.data.toList = La := ⟨_, rfl⟩
    obtain ⟨Lb, hLb⟩ : ∃ Lb, foundL b.data.toList = Lb := ⟨_, rfl⟩
    rw [hLa] at hs1 hjoin hla1
    rw [hLb] at hs2 hjoin hat hlb1
    clear hLa hLb
    have tok1 : True := trivial
    go_enter Tryd.func4, Tryd.ntmps4
    go_wp2_with (first | (go_at_call 5; refine hk.mono ?_; rintro e w1 ⟨rfl, hb1⟩; have h1 := hs1 w1 hb1) | (go_at_call 6; have _u := tok1; clear tok1; refine h1.mono ?_; rintro e w2 ⟨hb2, hA⟩; have hB2 := below_step hb1 hb2; have h2 := hs2 w2 hB2; clear h1 hk hs1 hs2; rcases hA with ⟨q1, n1, hn1, -, rfl⟩ | ⟨hall1, p1, c1, rfl, ho1⟩))
    · have hne1 : ((n1 : Int) != 0) = true := by simp; omega
      go_wp2_with (first | (go_at_call 6; refine h2.mono ?_; rintro e w3 ⟨hb3, hA⟩; have hB3 := below_step hB2 hb3; clear h2; rcases hA with ⟨q2, n2, hn2, -, rfl⟩ | ⟨hall2, p2, c2, rfl, ho2⟩))
      all_goals
        go_wp2_with (first | (go_at_call 7; refine (num_any _ _).mono ?_; rintro e w9 ⟨rfl, hw9⟩; subst w9))
        go_ret
        exact ⟨rfl, hB3⟩
    · go_wp2_with (first | (go_at_call 6; refine h2.mono ?_; rintro e w3 ⟨hb3, hA⟩; have hB3 := below_step hB2 hb3; clear h2; rcases hA with ⟨q2, n2, hn2, -, rfl⟩ | ⟨hall2, p2, c2, rfl, ho2⟩))
      · have hne2 : ((n2 : Int) != 0) = true := by simp; omega
        go_wp2_with (first | (go_at_call 7; refine (num_any _ _).mono ?_; rintro e w9 ⟨rfl, hw9⟩; subst w9))
        go_ret
        exact ⟨rfl, hB3⟩
      · have hj2 := hjoin hall1
        rw [hj2] at hs3
        clear hjoin hj2
        go_wp2_with (first | (go_at_call 7; refine (num_any _ _).mono ?_; rintro e w9 ⟨rfl, hw9⟩; subst w9))
        obtain ⟨M, hM⟩ : ∃ M, Lb.map (shI (a.size + 1)) = M := ⟨_, rfl⟩
        have hMl : M.length = Lb.length := by rw [← hM, List.length_map]
        rw [hM] at hs3
        go_loopw [11] (fun iv W => ∃ i : Nat, i ≤ Lb.length ∧ iv = .int .i64 (i : Int) ∧ W.ownsRow w2.heap.size 29 5 (.slice p2 Lb.length c2) Lb.length (tokLs (M.take i ++ Lb.drop i)) ∧ Below w2.heap.size w2 W) (fun iv _ => Lb.length - (intOf iv).toNat)
        case atStart => exact ⟨0, by omega, rfl, by simpa using ho2, hb3⟩
        case round =>
          obtain ⟨i, hi, rfl, hoi, hBi⟩ := hrel
          clear ho2
          by_cases hlt : i < Lb.length
          · have hlt' : (i : Int) < (Lb.length : Int) := by omega
            have hi0 : (0 : Int) ≤ (i : Int) := by omega
            obtain ⟨g, c, e⟩ : ∃ g c, Value.slice p2 Lb.length c2 = .slice (some ⟨g, 0, none⟩) Lb.length c := by
              obtain ⟨_, ⟨e, h0⟩ | ⟨g, cap, cur, e, _⟩⟩ := hoi
              · omega
              · exact ⟨g, cap, e⟩
            injection e with e1 e2 e3
            subst e1 e3
            have hLl : (M.take i ++ Lb.drop i).length = Lb.length := by rw [List.length_append, List.length_take, List.length_drop]; omega
            have hgi := half_get hMl hlt (by omega)
            have hci := hoi.cellAt (i * 5 + 1) (by omega)
            rw [tokLs_get _ i 1 (by omega) (by omega), hgi] at hci
            have hci' : wr.cell? ⟨g, i * 5 + 1, none⟩ = some (.int .i64 ((Lb[i]).2.1 : Int)) := hci
            have hfi := hoi.frozenAt (i * 5 + 1)
            have hMi : M[i]'(by omega) = (Lb[i].1, a.size + 1 + Lb[i].2.1, Lb[i].2.2) := by
              subst hM
              rw [List.getElem_map]
              rfl
            have hst := hoi.stored (i * 5 + 1) (.int .i64 ((a.size + 1 + (Lb[i]).2.1 : Nat) : Int))
            have hsx := tokLs_set (M.take i ++ Lb.drop i) i (by omega) (a.size + 1 + (Lb[i]).2.1)
            rw [hgi, ← hMi, half_set hMl hlt] at hsx
            rw [hsx] at hst
            have hal := hat _ (List.getElem_mem hlt) (hall2 _ (List.getElem_mem hlt))
            have hgl := (hoi.lt g rfl).1
            have hB4 := hBi.setCell (p := ⟨g, i * 5 + 1, none⟩) hgl (.int .i64 ((a.size + 1 + (Lb[i]).2.1 : Nat) : Int))
            have hcast : ((a.size + 1 + (Lb[i]).2.1 : Nat) : Int) = ((Lb[i]).2.1 : Int) + (a.size : Int) + 1 := by omega
            rw [hcast] at hst hB4
            have hfin : Hid (∃ j : Nat, j ≤ Lb.length ∧ Value.int .i64 ((i : Int) + 1) = .int .i64 (j : Int) ∧ (wr.setCell ⟨g, i * 5 + 1, none⟩ (.int .i64 (((Lb[i]).2.1 : Int) + (a.size : Int) + 1))).ownsRow w2.heap.size 29 5 (.slice (some ⟨g, 0, none⟩) Lb.length c2) Lb.length (tokLs (M.take j ++ Lb.drop j)) ∧ Below w2.heap.size w2 (wr.setCell ⟨g, i * 5 + 1, none⟩ (.int .i64 (((Lb[i]).2.1 : Int) + (a.size : Int) + 1)))) :=
              ⟨i + 1, by omega, by simp, hst.1, hB4⟩
            generalize (Lb[i]).2.1 = z at *
            clear hst hsx hMi hgi hci hcast hB4 hoi hBi hs3 hat hall1 hall2 ho1
            go_wp2_with fail
            go_roundw
            case rel => exact hfin.out
            case measure => simp [intOf]; omega
          · obtain rfl : i = Lb.length := by omega
            have hfull : M.take Lb.length ++ Lb.drop Lb.length = M := by rw [List.drop_length, List.append_nil, ← hMl, List.take_length]
            rw [hfull] at hoi
            have hB5 := below_step hB2 hBi
            have h3 := hs3 wr hB5
            have hML : M.length ≤ 16002 := by omega
            have hMok : ∀ x ∈ La ++ M, x.2.2 = 0 := fun x hx => by
              rcases List.mem_append.1 hx with hx | hx
              · exact hall1 x hx
              · rw [← hM] at hx
                obtain ⟨y, hy, rfl⟩ := List.mem_map.1 hx
                exact hall2 y hy
            have hLM : (La ++ M).length = La.length + Lb.length := by rw [List.length_append, hMl]
            rw [hLM] at h3
            clear hs3 hat hM
            go_wp2_with (first | (go_at_call 6; refine h3.mono ?_; rintro e w6 ⟨hb6, hA⟩; have hB6 := below_step hB5 hb6; clear h3; rcases hA with ⟨q3, n3, hn3, hbad, rfl⟩ | ⟨hall3, p3, c3, rfl, ho3⟩))
            · obtain ⟨pre, x, hpx, hx⟩ := hbad
              exact absurd (hMok x (by rw [hpx]; simp)) hx
            · have ho1' := own_lat ho1 (below_step hBi hb6)
              have hoi' : w6.ownsRow w2.heap.size 29 5 (.slice p2 Lb.length c2) M.length (tokLs M) := by
                rw [hMl]
                exact own_lat hoi hb6
              have ho3' : w6.ownsRow wr.heap.size 29 5 (.slice p3 (La.length + Lb.length) c3) (La ++ M).length (tokLs (La ++ M)) := by
                rw [hLM]
                exact ho3
              have z1 := hb1.size
              have z2 := hBi.size
              have z6 := hB6.size
              have zb := hb2.size
              have zc := hb6.size
              go_wp2_with (first | (go_at_call 7; refine (num_any _ _).mono ?_; rintro e w9 ⟨rfl, hw9⟩; subst w9) | (at_builtin; refine wpList_unguard rfl ?_; refine wpList_cat _ rfl _ _ rfl w1.heap.size (by omega) _ La rfl ho1' w2.heap.size _ M rfl hoi' (by omega) (by omega) ?_; intro v7 w7 hown7 hgrow7; have hk7 := ho3'.kept hgrow7 (own_apart ho3' ho1 (by omega)); have hB7 := hB6.grown hgrow7 (by omega) (fun j hj => by have := (ho1.lt j hj).1; omega); obtain ⟨p7, m7, c7, rfl⟩ := own_slice hown7; have hsm := same_toks _ _ (La ++ M) (by omega) w7 (tokrow_of_own hk7) (tokrow_of_own hown7)) | (go_at_call 8; refine hsm.mono ?_; rintro e w8 ⟨rfl, hb8⟩; have hB8 := below_step hB7 hb8))
              go_ret
              exact ⟨rfl, hB8⟩

end Go.Proofs.YtmnnaghamiioaaaDoor.Q
namespace Go.Proofs.YtmnnaghamiioaaaDoor
open Go.RowKit
theorem wjoins_walk (a b : ByteArray) (w : World) (ha : a.data.toList.length ≤ reachBytes) (hb : b.data.toList.length ≤ reachBytes) (hT : Tabs w) : Calls Tryd.prog 4 #[.string a, .string b] w fun e w' => e = .returned (.bool true) ∧ Below w.heap.size w w' := by
  rw [size_list] at ha hb
  unfold reachBytes at ha hb
  exact Q.joins_walkQ a b (by omega) (by omega) w hT
end Go.Proofs.YtmnnaghamiioaaaDoor

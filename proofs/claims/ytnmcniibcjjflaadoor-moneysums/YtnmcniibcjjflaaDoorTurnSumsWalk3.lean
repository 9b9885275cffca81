import Derived.Test.YtnmcniibcjjflaaDoorTurnSumsWalk2
import Derived.Laws.AppendOwnNone
namespace Go.Proofs.YtnmcniibcjjflaaDoor
open Go.RowKit Go.Shelf

theorem wpList_append_zero (w : World) {ops : Array Oper} {rest : List Oper} {o : Oper} {a : Act} {Q : Exit → Act → World → Prop} (hgd : o.guard = none) (s x : Operand) (t : TypeId)
    (ho : o.op = .call { callee := .builtin .append, args := #[s, x], argTypes := #[t, t] })
    (base : Nat) (e : TypeId) (i : TypeInfo) (z : Value) (size bytes : Nat) (ht : Tryd.prog.underlying t = some (.slice e)) (hi : Tryd.prog.info? e = some i) (hz : i.zero = some z)
    (hsize : i.size = size) (hby : i.bytes = bytes) (hzs : z.cells.size = size) (hsz : 0 < size)
    (v : Value) (n : Nat) (xs : List Value) (hs : a.eval s = v) (hown : w.ownsRow base e size v n xs)
    (ad : Option Addr) (c : Nat) (hc : ad = none → c = 0) (hx : a.eval x = .slice ad 0 c)
    (h63 : n ≤ maxLen) (hbytes : n * bytes ≤ 140737488355328) (hbase : base ≤ w.heap.size)
    (h : ∀ v' w', w'.ownsRow base e size v' n xs → w.grownBy w' v.ownBlock → wpList Tryd.prog ops Q rest (a.put o.dst v') w') : wpList Tryd.prog ops Q (o :: rest) a w := by
  cases ad with
  | none =>
    obtain rfl := hc rfl
    exact wpList_append_own_none hgd s x t ho base e i size ht hi v n xs hs hown hx (h v w hown (World.grownBy.refl _ _))
  | some ad =>
    exact wpList_append_own w hgd s x t ho base e i z size bytes ht hi hz hsize hby hzs hsz v n xs hs hown ad 0 c [] hx (by simp) (fun j u hj => by simp at hj) (fun u hu => by simp at hu) h63 hbytes hbase (fun v' w' h1 h2 _ => h v' w' (by simpa using h1) h2)

abbrev NilS (W : World) (r : (Int × Int) × Nat) (H H3 : Nat) (a : Option Addr) (cap : Nat) (X : World) : Prop := X.cell? ⟨H3, 0, none⟩ = some (.int .i64 r.1.1) ∧ X.cell? ⟨H3, 1, none⟩ = some (.int .i64 r.1.2) ∧ X.cell? ⟨H, 0, none⟩ = some (.int .i64 r.1.1) ∧ X.cell? ⟨H, 1, none⟩ = some (.int .i64 r.1.2) ∧ X.cell? ⟨H + 1, 1, none⟩ = some (.int .i64 (r.2 : Int)) ∧ Kinds X ∧ Box X H3 (.int .i64 r.1.1) (.int .i64 r.1.2) ∧ Box X H (.int .i64 r.1.1) (.int .i64 r.1.2) ∧ Giv X (H + 1) a cap [] (r.2 : Int) ∧ Below W.heap.size W X

theorem NilS.later {W : World} {r : (Int × Int) × Nat} {H H3 : Nat} {a : Option Addr} {cap : Nat} {X Y : World} (h : NilS W r H H3 a cap X) (hb : Below X.heap.size X Y) : NilS W r H H3 a cap Y := by
  obtain ⟨-, -, -, -, -, hK, hX, hY, hG, hB⟩ := h
  have hX' := hX.later hb
  have hY' := hY.later hb
  have hG' := hG.stepB (B := 0) ⟨none, grown_of_belowB hb, fun r e => by cases e⟩
  exact ⟨hX'.1, hX'.2.1, hY'.1, hY'.2.1, hG'.2.1, hK.later hb, hX', hY', hG', below_step hB hb⟩

theorem held_nil {W : World} {r : (Int × Int) × Nat} {H H3 : Nat} {a : Option Addr} {cap : Nat} {X : World} {f : Nat} {args : Array Value} {E : Ending} (h : X.cell? ⟨H3, 0, none⟩ = some (.int .i64 r.1.1) ∧ X.cell? ⟨H3, 1, none⟩ = some (.int .i64 r.1.2) ∧ X.cell? ⟨H, 0, none⟩ = some (.int .i64 r.1.1) ∧ X.cell? ⟨H, 1, none⟩ = some (.int .i64 r.1.2) ∧ X.cell? ⟨H + 1, 1, none⟩ = some (.int .i64 (r.2 : Int)) ∧ Kinds X ∧ Box X H3 (.int .i64 r.1.1) (.int .i64 r.1.2) ∧ Box X H (.int .i64 r.1.1) (.int .i64 r.1.2) ∧ Giv X (H + 1) a cap [] (r.2 : Int) ∧ Below W.heap.size W X)
    (hc : Kinds X → Calls Tryd.prog f args X fun e w' => e = E ∧ Below X.heap.size X w') : Calls Tryd.prog f args X fun e Y => e = E ∧ Y.cell? ⟨H3, 0, none⟩ = some (.int .i64 r.1.1) ∧ Y.cell? ⟨H3, 1, none⟩ = some (.int .i64 r.1.2) ∧ Y.cell? ⟨H, 0, none⟩ = some (.int .i64 r.1.1) ∧ Y.cell? ⟨H, 1, none⟩ = some (.int .i64 r.1.2) ∧ Y.cell? ⟨H + 1, 1, none⟩ = some (.int .i64 (r.2 : Int)) ∧ Kinds Y ∧ Box Y H3 (.int .i64 r.1.1) (.int .i64 r.1.2) ∧ Box Y H (.int .i64 r.1.1) (.int .i64 r.1.2) ∧ Giv Y (H + 1) a cap [] (r.2 : Int) ∧ Below W.heap.size W Y :=
  (hc h.2.2.2.2.2.1).mono fun _ _ ⟨he, hb⟩ => ⟨he, NilS.later (W := W) h hb⟩

set_option maxRecDepth 100000 in
set_option maxHeartbeats 600000 in
theorem sums_nil (kind : Int) (a : Option Addr) (cap : Nat) (hcap : a = none → cap = 0) (W : World) (hK : Kinds W) (hV : Vals W a []) (r : (Int × Int) × Nat) (hr : Hid (r = tkn kind [])) :
    Calls Tryd.prog 3 #[.int .i64 kind, .slice a 0 cap] W fun e W' => e = .returned (.bool true) ∧ Below W.heap.size W W' := by
  have g0 : ¬ (16384 : Int) < 0 := by omega
  have hr2 : r.2 = 0 := by rw [hr.out, tkn]; split <;> rfl
  go_enter Tryd.func3, Tryd.ntmps3
  go_wp2_with (first | (go_at_call 6; refine (taken_refN kind a cap 0 [] rfl _ hV (by simp) r hr).mono ?_; rintro _ W1 ⟨rfl, hB1⟩) | (go_at_call 8; fail))
  have hV1 := hV.later hB1
  have hK1 := hK.later hB1
  have hs1 : (W1.alloc (.cells #[.int .i64 r.1.1, .int .i64 r.1.2] 24)).heap.size = W1.heap.size + 1 := by simp
  have hs2 : ((W1.alloc (.cells #[.int .i64 r.1.1, .int .i64 r.1.2] 24)).alloc (.cells #[.slice a 0 cap, .int .i64 0] 29)).heap.size = W1.heap.size + 2 := by simp
  have hB2 : Below W1.heap.size W1 ((W1.alloc (.cells #[.int .i64 r.1.1, .int .i64 r.1.2] 24)).alloc (.cells #[.slice a 0 cap, .int .i64 0] 29)) := ((Below.refl _ _).alloc (Nat.le_refl _) _).alloc (by simp) _
  have hY2 := (Box.new W1 (.int .i64 r.1.1) (.int .i64 r.1.2) 24).alloc (.cells #[.slice a 0 cap, .int .i64 0] 29)
  have hZ2 := Box.new (W1.alloc (.cells #[.int .i64 r.1.1, .int .i64 r.1.2] 24)) (.slice a 0 cap) (.int .i64 0) 29
  rw [hs1] at hZ2
  have hV2 := hV1.later hB2
  have hK2 := hK1.later hB2
  have hBW2 := below_step hB1 hB2
  clear hs1
  generalize ((W1.alloc (.cells #[.int .i64 r.1.1, .int .i64 r.1.2] 24)).alloc (.cells #[.slice a 0 cap, .int .i64 0] 29)) = W2 at *
  have hkl := hK1.1
  generalize hH : W1.heap.size = H at *
  have hWH : W.heap.size ≤ H := by have := hB1.size; omega
  have hG2 : Giv W2 (H + 1) a cap [] 0 := ⟨hZ2.1, hZ2.2.1, hZ2.2.2.2, hV2, hZ2.2.2.1⟩
  refine (sum_any (H + 1) kind a cap [] (by simp) W2 hK2 hG2 (by omega) (vals_other hV1 (by omega)) r hr).mono ?_
  rintro _ W3 ⟨rfl, hO3, hG3⟩
  have hY3 : Box W3 H (.int .i64 r.1.1) (.int .i64 r.1.2) := by
    have hb := hO3.block H (by omega) (by omega)
    exact ⟨(World.cell?_of_block hb).trans hY2.1, (World.cell?_of_block hb).trans hY2.2.1, (World.frozen?_of_block hb).trans hY2.2.2.1, (World.frozen?_of_block hb).trans hY2.2.2.2⟩
  have hK3 : Kinds W3 := by
    have hb := hO3.block _ hK2.1 (by omega)
    refine ⟨Nat.lt_of_lt_of_le hK2.1 hO3.size, fun i hi => ?_⟩
    obtain ⟨a, b, c⟩ := hK2.2 i hi
    exact ⟨(World.cell?_of_block hb).trans a, (World.cell?_of_block hb).trans b, (World.cell?_of_block hb).trans c⟩
  have hB3 : Below W.heap.size W W3 := ⟨hO3.os.trans hBW2.os, hO3.tape.trans hBW2.tape, hO3.output.trans hBW2.output, Nat.le_trans hBW2.size hO3.size, fun k hk => (hO3.block k (by have := hBW2.size; omega) (by omega)).trans (hBW2.block k hk)⟩
  have hs3 := hO3.size
  clear hY2 hZ2 hV2 hK2 hBW2 hG2 hO3 hB2 hH
  have hX4 := Box.new W3 (.int .i64 r.1.1) (.int .i64 r.1.2) 24
  have hB4 := (Below.refl W3.heap.size W3).alloc (Nat.le_refl _) (.cells #[.int .i64 r.1.1, .int .i64 r.1.2] 24)
  have hY4 := hY3.later hB4
  have hK4 := hK3.later hB4
  have hG4 := hG3.stepB (stepB_alloc 0 _ (.cells #[.int .i64 r.1.1, .int .i64 r.1.2] 24))
  have hB5 := below_step hB3 hB4
  have hs4 : (W3.alloc (.cells #[.int .i64 r.1.1, .int .i64 r.1.2] 24)).heap.size = W3.heap.size + 1 := by simp
  clear hY3 hK3 hG3 hB3 hB4
  go_wp2
  generalize W3.alloc (.cells #[.int .i64 r.1.1, .int .i64 r.1.2] 24) = W4 at *
  generalize W3.heap.size = H3 at *
  obtain ⟨x0, x1, x2, x3⟩ := id hX4
  obtain ⟨y0, y1, y2, y3⟩ := id hY4
  have c1 := hG4.2.1
  have hn0 : ((r.2 : Int) == 0) = true := by rw [hr2]; rfl
  obtain ⟨i0, hi, hz0, hz1, hz2⟩ := info_parts infoV
  have hS4 : NilS W r H H3 a cap W4 := ⟨x0, x1, y0, y1, c1, hK4, hX4, hY4, hG4, hB5⟩
  have hS4' := hS4.later (Below.refl W4.heap.size W4).drew
  clear x0 x1 x2 x3 y0 y1 y2 y3 c1 hK4 hX4 hY4 hG4 hB5 hS4
  go_region_held3 (fun X => X.cell? ⟨H3, 0, none⟩ = some (.int .i64 r.1.1) ∧ X.cell? ⟨H3, 1, none⟩ = some (.int .i64 r.1.2) ∧ X.cell? ⟨H, 0, none⟩ = some (.int .i64 r.1.1) ∧ X.cell? ⟨H, 1, none⟩ = some (.int .i64 r.1.2) ∧ X.cell? ⟨H + 1, 1, none⟩ = some (.int .i64 (r.2 : Int)) ∧ Kinds X ∧ Box X H3 (.int .i64 r.1.1) (.int .i64 r.1.2) ∧ Box X H (.int .i64 r.1.1) (.int .i64 r.1.2) ∧ Giv X (H + 1) a cap [] (r.2 : Int) ∧ Below W.heap.size W X) (with_reducible assumption)
    (first | (go_at_call 8; refine (held_nil (W := W) (r := r) (H := H) (H3 := H3) (a := a) (cap := cap) ?_ (fun h => sum_none kind _ h r hr)).mono ?_; with_reducible assumption; rintro e w5 ⟨rfl, hS5⟩))
  obtain ⟨-, -, -, -, -, hK5, hX5, hY5, hG5, hB6⟩ := hS5
  clear hS4'
  have hs5 : H3 + 1 ≤ w5.heap.size := hX5.lt
  generalize w5 = W5 at *
  have hbA := (Below.refl W5.heap.size W5).alloc (Nat.le_refl _) (.cells #[.int .i64 1, .int .i64 7, .int .i64 2, .int .i64 7] 24)
  have tok : True := trivial
  go_wp2_with (first | (at_builtin; have _u := tok; clear tok; refine wpList_append_own _ rfl _ _ 22 rfl W5.heap.size 24 i0 _ 2 16 Tryd.underlying22 hi hz0 hz1 hz2 rfl (by decide) (.slice none 0 0) 0 [] rfl (World.ownsRow_nil _ _ _ _) ⟨W5.heap.size, 0, none⟩ 2 2 [.int .i64 1, .int .i64 7, .int .i64 2, .int .i64 7] rfl rfl (cells4_atV _ _ rfl _ _ _ _ _) (ints_oneCell .i64 [1, 7, 2, 7]) (by unfold maxLen; omega) (by omega) (by simp) ?_; intro v1 W6 hown1 hgrow1 _; obtain ⟨g1, cap1, rfl⟩ := own_some hown1 (by omega); have hb6 := hbA.grown hgrow1 (by simp) (by simp [Value.ownBlock])) | (at_builtin; refine wpList_append_zero _ rfl _ _ 22 rfl W5.heap.size 24 i0 _ 2 16 Tryd.underlying22 hi hz0 hz1 hz2 rfl (by decide) _ _ _ rfl hown1 a cap hcap rfl (by unfold maxLen; omega) (by omega) hb6.size ?_; intro v2 W7 hown2 hgrow2; obtain ⟨g2, cap2, rfl⟩ := own_some hown2 (by omega); have hb7 := hb6.grown hgrow2 hb6.size (fun k hk => (hown1.lt k hk).1); have hcap2 := own_capV hown2; have hG7 := hG5.stepB (B := 0) ⟨none, grown_of_belowB hb7, fun r e => by cases e⟩; have c0 := hG7.1; have c1 := hG7.2.1; have f1 := hG7.2.2.1; have f0 := hG7.2.2.2.2) | (go_at_call 6; fail))
  have hV7 : Vals W7 (some ⟨g2, 0, none⟩) [(1, 7), (2, 7)] := by
    have := vals_drop (n := 2) (L := [(1, 7), (2, 7)]) rfl (by simpa [flat2] using hown2) 0 (by unfold maxLen; simp)
    simpa using this
  have hg2 := (hown2.lt g2 rfl).1
  have hX7 := hX5.later hb7
  have hY7 := hY5.later hb7
  have hK7 := hK5.later hb7
  have hB7 := below_step hB6 hb7
  have hsz7 := hb7.size
  have hX7l := hX7.lt
  clear hown2 hgrow2 hown1 hgrow1 hb6 hbA hG7 hX5 hY5 hK5 hG5 hB6
  have hV8 := vals_off (o := 1) (v := .int .i64 0) (vals_off (o := 0) (v := .slice (some ⟨g2, 0, none⟩) 2 cap2) hV7 (k := H + 1) (by omega)) (k := H + 1) (by omega)
  have hX8 := box_off (o := 1) (v := .int .i64 0) (box_off (o := 0) (v := .slice (some ⟨g2, 0, none⟩) 2 cap2) hX7 (k := H + 1) (by omega)) (k := H + 1) (by omega)
  have hY8 := box_off (o := 1) (v := .int .i64 0) (box_off (o := 0) (v := .slice (some ⟨g2, 0, none⟩) 2 cap2) hY7 (k := H + 1) (by omega)) (k := H + 1) (by omega)
  have hK8 := kinds_off (o := 1) (v := .int .i64 0) (kinds_off (o := 0) (v := .slice (some ⟨g2, 0, none⟩) 2 cap2) hK7 (k := H + 1) (by omega)) (k := H + 1) (by omega)
  have hB8 := (hB7.setCell (p := ⟨H + 1, 0, none⟩) (by show W.heap.size ≤ H + 1; omega) (.slice (some ⟨g2, 0, none⟩) 2 cap2)).setCell (p := ⟨H + 1, 1, none⟩) (by show W.heap.size ≤ H + 1; omega) (.int .i64 0)
  have hG8 : Giv ((W7.setCell ⟨H + 1, 0, none⟩ (.slice (some ⟨g2, 0, none⟩) 2 cap2)).setCell ⟨H + 1, 1, none⟩ (.int .i64 0)) (H + 1) (some ⟨g2, 0, none⟩) cap2 [(1, 7), (2, 7)] 0 := by
    refine ⟨?_, World.cell?_setCell_same _ _ _ (by rw [cell_o (by omega)]; exact c1), by rw [World.frozen?_setCell, World.frozen?_setCell]; exact f1, hV8, by rw [World.frozen?_setCell, World.frozen?_setCell]; exact f0⟩
    rw [cell_o (by omega)]
    exact World.cell?_setCell_same _ _ _ c0
  clear c0 c1 f0 f1 hX7 hY7 hK7 hB7 hb7
  obtain ⟨s, hs⟩ : ∃ s, Hid (s = tkn kind [(1, 7), (2, 7)]) := ⟨_, rfl⟩
  refine (taken_refN kind (some ⟨g2, 0, none⟩) cap2 _ [(1, 7), (2, 7)] rfl _ hV8 (by simp) s hs).mono ?_
  rintro _ W9 ⟨rfl, hb9⟩
  have hX9 := hX8.later hb9
  have hY9 := hY8.later hb9
  have hK9 := hK8.later hb9
  have hB9 := below_step hB8 hb9
  have hG9 := hG8.stepB (B := 0) ⟨none, grown_of_belowB hb9, fun r e => by cases e⟩
  have hs9 := hb9.size
  clear hX8 hY8 hK8 hB8 hG8 hV8 hb9
  obtain ⟨y0, y1, y2, y3⟩ := id hY9
  go_wp2_with (go_at_call 8; fail)
  have hX10 := box_off (o := 1) (v := .int .i64 s.1.2) (box_off (o := 0) (v := .int .i64 s.1.1) hX9 (k := H) (by omega)) (k := H) (by omega)
  have hY10 : Box ((W9.setCell ⟨H, 0, none⟩ (.int .i64 s.1.1)).setCell ⟨H, 1, none⟩ (.int .i64 s.1.2)) H (.int .i64 s.1.1) (.int .i64 s.1.2) := box_set hY9
  have hK10 := kinds_off (o := 1) (v := .int .i64 s.1.2) (kinds_off (o := 0) (v := .int .i64 s.1.1) hK9 (k := H) (by omega)) (k := H) (by omega)
  have hG10 := giv_off (o := 1) (v := .int .i64 s.1.2) (giv_off (o := 0) (v := .int .i64 s.1.1) hG9 (k := H) (by omega) (by omega)) (k := H) (by omega) (by omega)
  have hB10 := (hB9.setCell (p := ⟨H, 0, none⟩) hWH (.int .i64 s.1.1)).setCell (p := ⟨H, 1, none⟩) hWH (.int .i64 s.1.2)
  clear hX9 hY9 hK9 hB9 hG9 y0 y1 y2 y3
  refine (sum_any (H + 1) kind (some ⟨g2, 0, none⟩) cap2 [(1, 7), (2, 7)] (by simp) _ hK10 hG10 (by omega) (fun X v h => vals_off h (by omega)) s hs).mono ?_
  rintro _ W11 ⟨rfl, hO, hG11⟩
  have hX11 := box_blk hX10 hO (by omega)
  have hY11 := box_blk hY10 hO (by omega)
  have hB11 : Below W.heap.size W W11 := ⟨hO.os.trans hB10.os, hO.tape.trans hB10.tape, hO.output.trans hB10.output, Nat.le_trans hB10.size hO.size, fun k hk => (hO.block k (by have := hB10.size; omega) (by omega)).trans (hB10.block k hk)⟩
  clear hX10 hY10 hK10 hG10 hB10 hO
  have hX12 : Box ((W11.setCell ⟨H3, 0, none⟩ (.int .i64 s.1.1)).setCell ⟨H3, 1, none⟩ (.int .i64 s.1.2)) H3 (.int .i64 s.1.1) (.int .i64 s.1.2) := box_set hX11
  have hY12 := box_off (o := 1) (v := .int .i64 s.1.2) (box_off (o := 0) (v := .int .i64 s.1.1) hY11 (k := H3) (by omega)) (k := H3) (by omega)
  have hG12 := giv_off (o := 1) (v := .int .i64 s.1.2) (giv_off (o := 0) (v := .int .i64 s.1.1) hG11 (k := H3) (by omega) (by omega)) (k := H3) (by omega) (by omega)
  have hB12 := (hB11.setCell (p := ⟨H3, 0, none⟩) (by show W.heap.size ≤ H3; omega) (.int .i64 s.1.1)).setCell (p := ⟨H3, 1, none⟩) (by show W.heap.size ≤ H3; omega) (.int .i64 s.1.2)
  obtain ⟨x0, x1, x2, x3⟩ := id hX11
  obtain ⟨u0, u1, -, -⟩ := hX12
  obtain ⟨v0, v1, -, -⟩ := hY12
  have w1 := hG12.2.1
  go_wp2
  go_ret
  exact ⟨rfl, hB12⟩


end Go.Proofs.YtnmcniibcjjflaaDoor

import Derived.Test.YtjgngmmepheioaaPxE2
namespace Go.Proofs.Ytjgngmmepheioaa
open Go.RowKit

/-- What args answers. -/
def ArP (d : Nat) (c : Rc) (at_ ft er : Nat) (W : World) (e : Ending) (W' : World) : Prop := ∃ (es : List Ex) (a : Option Addr) (cap at2 ft2 er2 : Nat), e = .returned (.slice a es.length cap) ∧ RowR eE W' (fun b => W.heap.size ≤ b) es a ∧ RS c W' at2 ft2 er2 ∧ W.grownBy W' (some c.r) ∧ Xp (rArgs (rExpr (65 - d)) c.l at_) ft er at2 ft2 er2 es
set_option maxRecDepth 8000 in
set_option maxHeartbeats 4000000 in
theorem args_any (d : Nat) (ih : ExprIs d) (c : Rc) (W : World) {at_ ft er : Nat} (h : RS c W at_ ft er) : Calls Try.prog 78 #[.pointer (some ⟨c.r, 0, none⟩), .int .i64 (d : Int)] W (ArP d c at_ ft er W) := by
  have hle := h.le
  have h1 := h.alloc (.cells #[.pointer (some ⟨c.r, 0, none⟩)] 85)
  have h2 := h1.alloc (.cells #[.int .i64 (d : Int)] 3)
  have hg1 := World.grownBy_alloc W (.cells #[.pointer (some ⟨c.r, 0, none⟩)] 85) (some c.r)
  have hg2 := World.grownBy_alloc (W.alloc (.cells #[.pointer (some ⟨c.r, 0, none⟩)] 85)) (.cells #[.int .i64 (d : Int)] 3) (some c.r)
  have hg12 := hg1.trans hg2
  have hr := h.lt
  have hs1 : (W.alloc (.cells #[.pointer (some ⟨c.r, 0, none⟩)] 85)).heap.size = W.heap.size + 1 := by simp
  have d1 : ((W.alloc (.cells #[.pointer (some ⟨c.r, 0, none⟩)] 85)).alloc (.cells #[.int .i64 (d : Int)] 3)).cell? ⟨W.heap.size, 0, none⟩ = some (.pointer (some ⟨c.r, 0, none⟩)) := by
    rw [gr_cell (World.grownBy_alloc _ _ none) (by rw [hs1]; omega) (by simp) 0]
    simp
  have d2 : ((W.alloc (.cells #[.pointer (some ⟨c.r, 0, none⟩)] 85)).alloc (.cells #[.int .i64 (d : Int)] 3)).cell? ⟨W.heap.size + 1, 0, none⟩ = some (.int .i64 (d : Int)) := by
    rw [← hs1]
    simp
  have hn1 : some W.heap.size ≠ some c.r := fun e => by injection e with e; omega
  have hn2 : some (W.heap.size + 1) ≠ some c.r := fun e => by injection e with e; omega
  have hd1 : W.heap.size < _ := World.block_lt_of_cell? _ _ d1
  have hd2 : W.heap.size + 1 < _ := World.block_lt_of_cell? _ _ d2
  have c1 := h2.c1
  have hgl := getList_expr c _ h2 d W.heap.size (W.heap.size + 1) (fun W1 a1 f1 e1 hR hG => args1_any d ih W.heap.size (W.heap.size + 1) c W1 hR ((gr_cell hG hd1 hn1 0).trans d1) ((gr_cell hG hd2 hn2 0).trans d2))
  have hbig : W.heap.size ≤ ((W.alloc (.cells #[.pointer (some ⟨c.r, 0, none⟩)] 85)).alloc (.cells #[.int .i64 (d : Int)] 3)).heap.size := hg12.size
  clear h h1 hg1 hg2 d2 hs1
  go_enter Try.func78, Try.ntmps78
  go_wp2_with (first | (go_at_call 79; refine hgl.mono ?_; clear hgl; rintro e w3 hP; obtain ⟨es, v, at3, ft3, er3, he, hV, h3, hg3, hp3⟩ := hP; obtain ⟨a3, cap3, hv3, hrow3⟩ := hV; subst hv3; subst he; have d3 := (gr_cell hg3 hd1 hn1 0).trans d1; by_cases hem : es.length = 0))
  · have hem' : ((es.length : Int) == 0) = true := by rw [hem]; rfl
    have hf := fail_any c at_ 71 hle (by omega) w3 h3
    have hes : es = [] := List.eq_nil_of_length_eq_zero hem
    subst hes
    have hq := hp3.bd (K := fun es a2 => if es.length = 0 then .error (at_, 71) else .ok (es, a2)) (Xp.fail (x := ([] : List Ex)) (a := c.l.length) (fun _ => if_pos rfl) (by decide))
    clear hem hp3
    go_wp2_with (go_at_call 50; refine hf.mono ?_; rintro e w4 ⟨rfl, h4, hg4⟩)
    exact bodyPost_ret (v := .slice a3 ([] : List Ex).length cap3) (by simp [results, Try.results78, go_sem]) rfl ⟨[], a3, cap3, _, _, _, rfl, .inl rfl, h4, (hg12.trans hg3).trans hg4, hq⟩
  · have hem' : ((es.length : Int) == 0) = false := by simp; exact fun e => hem (by rw [e]; rfl)
    have hfin : ArP d c at_ ft er W (.returned (.slice a3 es.length cap3)) w3 := ⟨es, a3, cap3, _, _, _, rfl, hrow3.mo (fun b _ hb => Nat.le_trans hbig hb), h3, hg12.trans hg3, hp3.bd (by rw [if_neg hem]; exact Xp.pure)⟩
    clear hem hp3 hrow3
    go_wp2
    exact bodyPost_ret (v := .slice a3 es.length cap3) (by simp [results, Try.results78, go_sem]) rfl hfin

theorem encZ_pos {z : Int} (h : z ≠ 0) : encZ z = encI z := if_neg h
theorem encZ_zero : encZ 0 = [] := if_pos rfl

set_option maxRecDepth 8000 in
set_option maxHeartbeats 4000000 in
theorem expr_deep : ExprIs 65 := fun c W at_ ft er h => by
  have h1 := h.alloc (.cells #[.int .i64 0, .int .i64 0, .int .i64 0, .int .i64 0, .slice none 0 0] 77)
  have c1 := h1.c1
  have hf := fail_any c at_ 72 h.le (by omega) _ h1
  have hg0 := World.grownBy_alloc W (.cells #[.int .i64 0, .int .i64 0, .int .i64 0, .int .i64 0, .slice none 0 0] 77) (some c.r)
  have hb0 := bx_new W #[.int .i64 0, .int .i64 0, .int .i64 0, .int .i64 0, .slice none 0 0] 77
  have hr := h.lt
  have hrb : some W.heap.size ≠ some c.r := fun e => by injection e with e; omega
  clear h h1
  go_enter Try.func74, Try.ntmps74
  go_wp2_with (go_at_call 50; refine hf.mono ?_; rintro e w4 ⟨rfl, h4, hg4⟩; have hbk := hb0.kept hg4 hrb; have q0 : w4.cell? ⟨W.heap.size, 0, none⟩ = some (.int .i64 0) := hbk.2.1 0 (by simp); have id0 := set_id q0; have fz0 := hbk.2.2 0; have q1 : w4.cell? ⟨W.heap.size, 1, none⟩ = some (.int .i64 0) := hbk.2.1 1 (by simp); have id1 := set_id q1; have fz1 := hbk.2.2 1; have q2 : w4.cell? ⟨W.heap.size, 2, none⟩ = some (.int .i64 0) := hbk.2.1 2 (by simp); have id2 := set_id q2; have fz2 := hbk.2.2 2; have q3 : w4.cell? ⟨W.heap.size, 3, none⟩ = some (.int .i64 0) := hbk.2.1 3 (by simp); have id3 := set_id q3; have fz3 := hbk.2.2 3; have q4 : w4.cell? ⟨W.heap.size, 4, none⟩ = some (.slice none 0 0) := hbk.2.1 4 (by simp); have id4 := set_id q4; have fz4 := hbk.2.2 4)
  have hfin : Xc (rExpr 0) (VE eE) c at_ ft er W (.returned (.agg #[.int .i64 0, .int .i64 0, .int .i64 0, .int .i64 0, .slice none 0 0])) w4 := ⟨⟨0, 0, 0, 0, .nil⟩, _, _, _, _, rfl, ⟨[.int .i64 0, .int .i64 0, .int .i64 0, .int .i64 0, .slice none 0 0], rfl, none, 0, rfl, ⟨⟨by decide, by decide⟩, ⟨by decide, by decide⟩, ⟨by decide, by decide⟩, by decide, by decide⟩, trivial⟩, h4, hg0.trans hg4, Xp.fail (fun _ => rfl) (by decide)⟩
  exact bodyPost_ret (v := .agg #[.int .i64 0, .int .i64 0, .int .i64 0, .int .i64 0, .slice none 0 0]) (by simp [results, Try.results74, go_sem, q0, q1, q2, q3, q4]) rfl hfin

end Go.Proofs.Ytjgngmmepheioaa

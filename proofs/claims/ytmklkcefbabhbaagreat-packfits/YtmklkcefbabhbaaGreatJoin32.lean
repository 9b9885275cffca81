import Derived.Test.YtmklkcefbabhbaaGreatJoin28
import Derived.Test.YtmklkcefbabhbaaGreatTurnYrI7
import Derived.Test.YtmklkcefbabhbaaGreatTurnYrIa
import Derived.Test.YtmklkcefbabhbaaGreatTurnYrI8
import Derived.Test.YtmklkcefbabhbaaGreatJoin21
/- Step 3. -/
namespace Go.Proofs.YtmklkcefbabhbaaGreat.R6
open Go.RowKit

set_option maxRecDepth 20000 in
set_option maxHeartbeats 1000000 in
theorem th_6 (p : Pk) (a3 a4 a5 a6 a7 : Option Addr) (c3 c4 c5 c6 c7 : Nat) (g : Int) (n wb : Nat) (x : Ex) (a : Option Addr) (c : Nat) (ho : x.op = 6) (W : World) (hw : WkAt W wb p a3 a4 a5 a6 a7 c3 c4 c5 c6 c7 g n) (hL : RowR eL W AnyB p.lns a6) (hO : RowR eO W AnyB p.opts a3) : Calls Tryz.prog 98 #[.pointer (some ⟨wb, 0, none⟩), .agg #[.int .i64 x.op, .int .i64 x.num, .int .i64 x.den, .int .i64 x.mode, .slice a x.args.len c]] W (Lk (.bool (thB p g x)) W) := by
  have hE1 : Below W.heap.size W (W.alloc (.cells #[.int .i64 x.op, .int .i64 x.num, .int .i64 x.den, .int .i64 x.mode, .slice a x.args.len c] 59)) := (Below.refl _ _).alloc (Nat.le_refl _) _
  obtain ⟨-, v0, v1, v2, v3, v4, v5, v6, -⟩ := hw.later hE1
  obtain ⟨X, hXe⟩ : ∃ X, (W.alloc (.cells #[.int .i64 x.op, .int .i64 x.num, .int .i64 x.den, .int .i64 x.mode, .slice a x.args.len c] 59)).alloc (.cells #[.string ⟨p.name.toArray⟩, .int .i64 p.year, .slice a3 p.opts.length c3, .slice a4 p.tabs.length c4, .slice a5 p.grps.length c5, .slice a6 p.lns.length c6, .slice a7 p.cks.length c7] 28) = X := ⟨_, rfl⟩
  have hb0 : Below W.heap.size W X := by rw [← hXe]; exact ((Below.refl _ _).alloc (Nat.le_refl _) _).alloc (by simp) _
  have hXl : W.heap.size + 1 < X.heap.size := by rw [← hXe]; simp
  have hBx : Hid (∀ w, Below X.heap.size X w → w.cell? ⟨W.heap.size, 0, none⟩ = some (.int .i64 x.op) ∧ w.cell? ⟨W.heap.size, 1, none⟩ = some (.int .i64 x.num) ∧ w.cell? ⟨W.heap.size, 2, none⟩ = some (.int .i64 x.den) ∧ w.cell? ⟨W.heap.size, 3, none⟩ = some (.int .i64 x.mode) ∧ w.cell? ⟨W.heap.size, 4, none⟩ = some (.slice a x.args.len c) ∧ w.cell? ⟨W.heap.size + 1, 0, none⟩ = some (.string ⟨p.name.toArray⟩) ∧ w.cell? ⟨W.heap.size + 1, 1, none⟩ = some (.int .i64 p.year) ∧ w.cell? ⟨W.heap.size + 1, 2, none⟩ = some (.slice a3 p.opts.length c3) ∧ w.cell? ⟨W.heap.size + 1, 3, none⟩ = some (.slice a4 p.tabs.length c4) ∧ w.cell? ⟨W.heap.size + 1, 4, none⟩ = some (.slice a5 p.grps.length c5) ∧ w.cell? ⟨W.heap.size + 1, 5, none⟩ = some (.slice a6 p.lns.length c6) ∧ w.cell? ⟨W.heap.size + 1, 6, none⟩ = some (.slice a7 p.cks.length c7)) := ⟨fun w hw => ⟨(bel_cell hw (by omega) 0).trans (by rw [← hXe]; simp), (bel_cell hw (by omega) 1).trans (by rw [← hXe]; simp), (bel_cell hw (by omega) 2).trans (by rw [← hXe]; simp), (bel_cell hw (by omega) 3).trans (by rw [← hXe]; simp), (bel_cell hw (by omega) 4).trans (by rw [← hXe]; simp), (bel_cell hw hXl 0).trans (by rw [← hXe, show W.heap.size + 1 = (W.alloc (.cells #[.int .i64 x.op, .int .i64 x.num, .int .i64 x.den, .int .i64 x.mode, .slice a x.args.len c] 59)).heap.size by simp]; simp), (bel_cell hw hXl 1).trans (by rw [← hXe, show W.heap.size + 1 = (W.alloc (.cells #[.int .i64 x.op, .int .i64 x.num, .int .i64 x.den, .int .i64 x.mode, .slice a x.args.len c] 59)).heap.size by simp]; simp), (bel_cell hw hXl 2).trans (by rw [← hXe, show W.heap.size + 1 = (W.alloc (.cells #[.int .i64 x.op, .int .i64 x.num, .int .i64 x.den, .int .i64 x.mode, .slice a x.args.len c] 59)).heap.size by simp]; simp), (bel_cell hw hXl 3).trans (by rw [← hXe, show W.heap.size + 1 = (W.alloc (.cells #[.int .i64 x.op, .int .i64 x.num, .int .i64 x.den, .int .i64 x.mode, .slice a x.args.len c] 59)).heap.size by simp]; simp), (bel_cell hw hXl 4).trans (by rw [← hXe, show W.heap.size + 1 = (W.alloc (.cells #[.int .i64 x.op, .int .i64 x.num, .int .i64 x.den, .int .i64 x.mode, .slice a x.args.len c] 59)).heap.size by simp]; simp), (bel_cell hw hXl 5).trans (by rw [← hXe, show W.heap.size + 1 = (W.alloc (.cells #[.int .i64 x.op, .int .i64 x.num, .int .i64 x.den, .int .i64 x.mode, .slice a x.args.len c] 59)).heap.size by simp]; simp), (bel_cell hw hXl 6).trans (by rw [← hXe, show W.heap.size + 1 = (W.alloc (.cells #[.int .i64 x.op, .int .i64 x.num, .int .i64 x.den, .int .i64 x.mode, .slice a x.args.len c] 59)).heap.size by simp]; simp)⟩⟩
  obtain ⟨y0, y1, y2, y3, y4, x0, x1, x2, x3, x4, x5, x6⟩ := hBx.out X (Below.refl _ _)
  have hwX := Hid.mk (fun w (hb : Below X.heap.size X w) => (hw.later hb0).later hb)
  have hLX := Hid.mk (fun w (hb : Below X.heap.size X w) => row_bel (row_bel hL hb0 (Nat.le_refl _)) hb (Nat.le_refl _))
  have hOX := row_bel hO hb0 (Nat.le_refl _)
  clear hw hL hO
  obtain ⟨R, hR⟩ : ∃ R, thB p g x = R := ⟨_, rfl⟩
  rw [hR]
  unfold thB at hR
  obtain ⟨op, hop⟩ : ∃ op, x.op = op := ⟨_, rfl⟩
  rw [hop] at hR hXe y0 v0 v1 v2 v3 v4 v5 v6 ⊢
  replace hBx : Hid (∀ w, Below X.heap.size X w → w.cell? ⟨W.heap.size, 0, none⟩ = some (.int .i64 op) ∧ w.cell? ⟨W.heap.size, 1, none⟩ = some (.int .i64 x.num) ∧ w.cell? ⟨W.heap.size, 2, none⟩ = some (.int .i64 x.den) ∧ w.cell? ⟨W.heap.size, 3, none⟩ = some (.int .i64 x.mode) ∧ w.cell? ⟨W.heap.size, 4, none⟩ = some (.slice a x.args.len c) ∧ w.cell? ⟨W.heap.size + 1, 0, none⟩ = some (.string ⟨p.name.toArray⟩) ∧ w.cell? ⟨W.heap.size + 1, 1, none⟩ = some (.int .i64 p.year) ∧ w.cell? ⟨W.heap.size + 1, 2, none⟩ = some (.slice a3 p.opts.length c3) ∧ w.cell? ⟨W.heap.size + 1, 3, none⟩ = some (.slice a4 p.tabs.length c4) ∧ w.cell? ⟨W.heap.size + 1, 4, none⟩ = some (.slice a5 p.grps.length c5) ∧ w.cell? ⟨W.heap.size + 1, 5, none⟩ = some (.slice a6 p.lns.length c6) ∧ w.cell? ⟨W.heap.size + 1, 6, none⟩ = some (.slice a7 p.cks.length c7)) := ⟨fun w hw => by have := hBx.out w hw; rw [hop] at this; exact this⟩
  clear hE1
  obtain rfl : op = 6 := hop.symm.trans ho
  clear hop ho
  rw [if_neg (by decide)] at hR
  rw [if_pos rfl] at hR
  have hln := line_any p a3 a4 a5 a6 a7 c3 c4 c5 c6 c7 x.num X (hLX.out _ (Below.refl _ _))
  unfold LnP at hln
  cases hlo : lnO p x.num with
  | none =>
    rw [hlo] at hln hR
    simp only at hln hR
    obtain rfl : R = false := by rw [← hR]
    clear hR hOX hLX hlo
    go_enter Tryz.func98, Tryz.ntmps98
    go_upto_region 7 with (go_at_call 105; refine hln.mono ?_; rintro e w2 ⟨hb2, rfl⟩; have hb3 : Below w2.heap.size w2 (w2.alloc (.cells #[.string ⟨#[]⟩, .bool false, .bool false, .int .i64 0, .int .i64 0, .int .i64 0, .slice none 0 0] 55)) := (Below.refl _ _).alloc (Nat.le_refl _) _; obtain ⟨-, -, -, -, -, -, -, -, g7, -⟩ := hwX.out _ (belT hb2 hb3); have hbq := Hid.mk (fun n => belT hb0 (belT (belT hb2 hb3) (drew_below _ n))))
    go_quiet (fail)
    have hbn := hbq.out nq
    go_wp2
    go_ret
    exact ⟨rfl, hbn⟩
  | some l =>
    rw [hlo] at hln hR
    simp only at hln hR
    cases hk : isK l.type with
    | false =>
      rw [hk] at hln hR
      obtain rfl : R = false := by rw [← hR, Bool.false_and]
      clear hR hOX hLX hlo hk
      go_enter Tryz.func98, Tryz.ntmps98
      go_upto_region 7 with (go_at_call 105; refine hln.mono ?_; rintro e w2 ⟨hb2, la, lc, rfl⟩; have hb3 : Below w2.heap.size w2 (w2.alloc (.cells #[.string ⟨l.name.toArray⟩, .bool l.input, .bool l.must, .int .i64 l.type, .int .i64 l.opts, .int .i64 l.group, .slice la l.cls.length lc] 55)) := (Below.refl _ _).alloc (Nat.le_refl _) _; obtain ⟨-, -, -, -, -, -, -, -, g7, -⟩ := hwX.out _ (belT hb2 hb3); have hbq := Hid.mk (fun n => belT hb0 (belT (belT hb2 hb3) (drew_below _ n))))
      go_quiet (fail)
      have hbn := hbq.out nq
      go_wp2
      go_ret
      exact ⟨rfl, hbn⟩
    | true =>
      rw [hk] at hln hR
      rw [Bool.true_and] at hR
      by_cases g1 : l.group = -1
      · have e1 : (l.group == -1) = true := by simp; omega
        obtain rfl : R = true := by rw [← hR, decide_eq_true g1, Bool.true_or]
        clear hR hOX hLX hlo hk g1
        go_enter Tryz.func98, Tryz.ntmps98
        go_upto_region 7 with (go_at_call 105; refine hln.mono ?_; rintro e w2 ⟨hb2, la, lc, rfl⟩; have hb3 : Below w2.heap.size w2 (w2.alloc (.cells #[.string ⟨l.name.toArray⟩, .bool l.input, .bool l.must, .int .i64 l.type, .int .i64 l.opts, .int .i64 l.group, .slice la l.cls.length lc] 55)) := (Below.refl _ _).alloc (Nat.le_refl _) _; obtain ⟨-, -, -, -, -, -, -, -, g7, -⟩ := hwX.out _ (belT hb2 hb3); have hbq := Hid.mk (fun n => belT hb0 (belT (belT hb2 hb3) (drew_below _ n))))
        go_quiet (fail)
        have hbn := hbq.out nq
        go_wp2
        go_ret
        exact ⟨rfl, hbn⟩
      have e1 : (l.group == -1) = false := by simp; omega
      by_cases g2 : l.group = g
      · have e2 : (l.group == g) = true := by simp; omega
        obtain rfl : R = true := by rw [← hR, decide_eq_true g2, Bool.or_true]
        clear hR hOX hLX hlo hk g1 g2
        go_enter Tryz.func98, Tryz.ntmps98
        go_upto_region 7 with (go_at_call 105; refine hln.mono ?_; rintro e w2 ⟨hb2, la, lc, rfl⟩; have hb3 : Below w2.heap.size w2 (w2.alloc (.cells #[.string ⟨l.name.toArray⟩, .bool l.input, .bool l.must, .int .i64 l.type, .int .i64 l.opts, .int .i64 l.group, .slice la l.cls.length lc] 55)) := (Below.refl _ _).alloc (Nat.le_refl _) _; obtain ⟨-, -, -, -, -, -, -, -, g7, -⟩ := hwX.out _ (belT hb2 hb3); have hbq := Hid.mk (fun n => belT hb0 (belT (belT hb2 hb3) (drew_below _ n))))
        go_quiet (fail)
        have hbn := hbq.out nq
        go_wp2
        go_ret
        exact ⟨rfl, hbn⟩
      · have e2 : (l.group == g) = false := by simp; omega
        obtain rfl : R = false := by rw [← hR, decide_eq_false g1, decide_eq_false g2]; rfl
        clear hR hOX hLX hlo hk g1 g2
        go_enter Tryz.func98, Tryz.ntmps98
        go_upto_region 7 with (go_at_call 105; refine hln.mono ?_; rintro e w2 ⟨hb2, la, lc, rfl⟩; have hb3 : Below w2.heap.size w2 (w2.alloc (.cells #[.string ⟨l.name.toArray⟩, .bool l.input, .bool l.must, .int .i64 l.type, .int .i64 l.opts, .int .i64 l.group, .slice la l.cls.length lc] 55)) := (Below.refl _ _).alloc (Nat.le_refl _) _; obtain ⟨-, -, -, -, -, -, -, -, g7, -⟩ := hwX.out _ (belT hb2 hb3); have hbq := Hid.mk (fun n => belT hb0 (belT (belT hb2 hb3) (drew_below _ n))))
        go_quiet (fail)
        have hbn := hbq.out nq
        go_wp2
        go_ret
        exact ⟨rfl, hbn⟩
end Go.Proofs.YtmklkcefbabhbaaGreat.R6


/- Step 3. -/
namespace Go.Proofs.YtmklkcefbabhbaaGreat.R6
open Go.RowKit

theorem there_any (p : Pk) (a3 a4 a5 a6 a7 : Option Addr) (c3 c4 c5 c6 c7 : Nat) (g : Int) (n wb : Nat) (x : Ex) (a : Option Addr) (c : Nat) (W : World) (hw : WkAt W wb p a3 a4 a5 a6 a7 c3 c4 c5 c6 c7 g n) (hL : RowR eL W AnyB p.lns a6) (hO : RowR eO W AnyB p.opts a3) : Calls Tryz.prog 98 #[.pointer (some ⟨wb, 0, none⟩), .agg #[.int .i64 x.op, .int .i64 x.num, .int .i64 x.den, .int .i64 x.mode, .slice a x.args.len c]] W (Lk (.bool (thB p g x)) W) := by
  by_cases o5 : x.op = 5
  · exact th_5 p a3 a4 a5 a6 a7 c3 c4 c5 c6 c7 g n wb x a c o5 W hw hL hO
  by_cases o6 : x.op = 6
  · exact th_6 p a3 a4 a5 a6 a7 c3 c4 c5 c6 c7 g n wb x a c o6 W hw hL hO
  by_cases o7 : x.op = 7
  · exact th_7 p a3 a4 a5 a6 a7 c3 c4 c5 c6 c7 g n wb x a c o7 W hw hL hO
  by_cases o9 : x.op = 9
  · exact th_9 p a3 a4 a5 a6 a7 c3 c4 c5 c6 c7 g n wb x a c o9 W hw hL hO
  by_cases o10 : x.op = 10
  · exact th_10 p a3 a4 a5 a6 a7 c3 c4 c5 c6 c7 g n wb x a c o10 W hw hL hO
  by_cases o11 : x.op = 11
  · exact th_11 p a3 a4 a5 a6 a7 c3 c4 c5 c6 c7 g n wb x a c o11 W hw hL hO
  by_cases o12 : x.op = 12
  · exact th_12 p a3 a4 a5 a6 a7 c3 c4 c5 c6 c7 g n wb x a c o12 W hw hL hO
  by_cases o8 : x.op = 8
  · exact th_8 p a3 a4 a5 a6 a7 c3 c4 c5 c6 c7 g n wb x a c o8 W hw hL hO
  by_cases o24 : x.op = 24
  · exact th_24 p a3 a4 a5 a6 a7 c3 c4 c5 c6 c7 g n wb x a c o24 W hw hL hO
  exact th_x p a3 a4 a5 a6 a7 c3 c4 c5 c6 c7 g n wb x a c o5 o6 o7 o9 o10 o11 o12 o8 o24 W hw hL hO
end Go.Proofs.YtmklkcefbabhbaaGreat.R6


/- Kinds in a row. -/
namespace Go.Proofs.YtmklkcefbabhbaaGreat.R6
open Go.RowKit

def eKd : Elt Kd where
  k := 2
  E := fun _ _ b cs => cs = [.int .i64 b.1, .int .i64 b.2]
  len := fun h => by rw [h]; rfl
  fr := fun h _ _ => h
  mo := fun h _ => h
def eIn : Elt Int where
  k := 1
  E := fun _ _ b cs => cs = [.int .i64 b]
  len := fun h => by rw [h]; rfl
  fr := fun h _ _ => h
  mo := fun h _ => h
theorem fs_step (want : List Int) (l : List Kd) {i : Nat} (h : i < l.length) : fsF want (l.drop i) i = if (l[i]).1 = want.getD (if want.length ≤ i then want.length - 1 else i) 0 then fsF want (l.drop (i + 1)) (i + 1) else i := by
  rw [List.drop_eq_getElem_cons h]
  rfl
theorem fs_end (want : List Int) (l : List Kd) (i : Nat) : fsF want (l.drop l.length) i = -1 := by simp [fsF]
theorem al_step (days : Bool) (k0 : Int) (l : List Kd) {i : Nat} (h : i < l.length) : alF days k0 (l.drop i) i = if ((l[i]).1 = 1 ∨ (l[i]).1 = 2 ∨ (days = true ∧ (l[i]).1 = 4)) ∧ (l[i]).1 = k0 then alF days k0 (l.drop (i + 1)) (i + 1) else i := by
  rw [List.drop_eq_getElem_cons h]
  rfl
theorem al_end (days : Bool) (k0 : Int) (l : List Kd) (i : Nat) : alF days k0 (l.drop l.length) i = -1 := by simp [alF]
set_option maxRecDepth 20000 in
set_option maxHeartbeats 4000000 in
theorem first_any (l : List Kd) (a : Option Addr) (c : Nat) (want : List Int) (b : Option Addr) (d m : Nat) (hm : want.length = m + 1) (W : World) (hR : RowR eKd W AnyB l a) (hQ : RowR eIn W AnyB want b) (hl : l.length ≤ 1000) : Calls Tryz.prog 107 #[.slice a l.length c, .slice b (m + 1) d] W (Lk (.int .i64 (fsF want l 0)) W) := by
  obtain ⟨N, hN⟩ : ∃ N, fsF want l 0 = N := ⟨_, rfl⟩
  rw [hN]
  have hN0 : Hid (fsF want (l.drop 0) 0 = N) := ⟨hN⟩
  clear hN
  have hl' : (l.length : Int) ≤ 1000 := by omega
  have hRX : Hid (∀ w, Below W.heap.size W w → RowR eKd w AnyB l a ∧ RowR eIn w AnyB want b) := ⟨fun w hw => ⟨row_bel hR hw (Nat.le_refl _), row_bel hQ hw (Nat.le_refl _)⟩⟩
  clear hR hQ
  go_enter Tryz.func107, Tryz.ntmps107
  go_wp2
  go_loopw [5] (fun iv wr => ∃ i : Nat, iv = .int .i64 (i : Int) ∧ i ≤ l.length ∧ Below W.heap.size W wr ∧ Hid (fsF want (l.drop i) i = N)) (fun iv _ => l.length - (intOf iv).toNat)
  case atStart => exact ⟨0, rfl, Nat.zero_le _, Below.refl _ _, hN0⟩
  case round =>
    clear hN0
    obtain ⟨i, rfl, hi, hbw, hst⟩ := hrel
    by_cases hlt : i < l.length
    · have hlt' : (i : Int) < (l.length : Int) := by omega
      have hi0 : (0 : Int) ≤ (i : Int) := by omega
      replace hst := hst.out
      rw [fs_step want l hlt, hm] at hst
      obtain ⟨hR, hQ⟩ := hRX.out _ hbw
      obtain ⟨ge, oe, rfl⟩ := hR.some hlt
      obtain ⟨cs, -, -, rfl, hcs⟩ := hR.item hlt
      have k0 : wr.cell? ⟨ge, oe + i * 2, none⟩ = some (.int .i64 (l[i]).1) := hcs 0 (by decide)
      obtain ⟨gw, ow, rfl⟩ := hQ.some (show m < want.length by omega)
      have hw0 : Hid (∀ j (h : j < want.length), wr.cell? ⟨gw, ow + j, none⟩ = some (.int .i64 want[j])) := ⟨fun j h => by
        obtain ⟨cs, -, -, rfl, hcs⟩ := hQ.item h
        have := hcs 0 (by decide)
        rw [show ow + j * eIn.k + 0 = ow + j by show ow + j * 1 + 0 = ow + j; omega] at this
        exact this⟩
      generalize (l[i]).1 = z at k0 hst
      clear hcs hR hQ
      by_cases hge : m + 1 ≤ i
      · have hge' : ((m + 1 : Nat) : Int) ≤ (i : Int) := by omega
        have hge2 : (m : Int) + 1 ≤ (i : Int) := by omega
        have hmi : (m : Int) < (m : Int) + 1 := by omega
        have hm0 : (0 : Int) ≤ (m : Int) := by omega
        rw [if_pos hge, Nat.add_sub_cancel, List.getD_eq_getElem?_getD, List.getElem?_eq_getElem (show m < want.length by omega), Option.getD_some] at hst
        have k1 := hw0.out m (by omega)
        generalize want[m] = y at k1 hst
        replace hst := Hid.mk hst
        have hbq := Hid.mk (fun n => belT hbw (drew_below wr n))
        by_cases he : z = y
        · have ez : (z != y) = false := by simp; omega
          have hnx : Hid (fsF want (l.drop (i + 1)) (i + 1) = N) := ⟨by have := hst.out; rw [if_pos he] at this; exact this⟩
          clear hst he
          go_upto_region 7 with fail
          go_quiet (fail)
          have hbn := hbq.out nq
          clear hbq
          go_wp2
          exact ⟨⟨i + 1, rfl, hlt, hbn, hnx⟩, by simp only [intOf]; omega⟩
        · have ez : (z != y) = true := by simp; omega
          have hfi : (i : Int) = N := by have := hst.out; rw [if_neg he] at this; exact this
          subst hfi
          clear hst he
          go_upto_region 7 with fail
          go_quiet (fail)
          have hbn := hbq.out nq
          clear hbq
          go_wp2
          go_ret
          exact ⟨rfl, hbn⟩
      · have hge' : ¬ ((m + 1 : Nat) : Int) ≤ (i : Int) := by omega
        have hge2 : ¬ (m : Int) + 1 ≤ (i : Int) := by omega
        have hmi : (i : Int) < (m : Int) + 1 := by omega
        rw [if_neg hge, List.getD_eq_getElem?_getD, List.getElem?_eq_getElem (show i < want.length by omega), Option.getD_some] at hst
        have k1 := hw0.out i (by omega)
        generalize (want[i]'(by omega)) = y at k1 hst
        replace hst := Hid.mk hst
        have hbq := Hid.mk (fun n => belT hbw (drew_below wr n))
        by_cases he : z = y
        · have ez : (z != y) = false := by simp; omega
          have hnx : Hid (fsF want (l.drop (i + 1)) (i + 1) = N) := ⟨by have := hst.out; rw [if_pos he] at this; exact this⟩
          clear hst he
          go_upto_region 7 with fail
          go_quiet (fail)
          have hbn := hbq.out nq
          clear hbq
          go_wp2
          exact ⟨⟨i + 1, rfl, hlt, hbn, hnx⟩, by simp only [intOf]; omega⟩
        · have ez : (z != y) = true := by simp; omega
          have hfi : (i : Int) = N := by have := hst.out; rw [if_neg he] at this; exact this
          subst hfi
          clear hst he
          go_upto_region 7 with fail
          go_quiet (fail)
          have hbn := hbq.out nq
          clear hbq
          go_wp2
          go_ret
          exact ⟨rfl, hbn⟩
    · have hlt' : ¬ (i : Int) < (l.length : Int) := by omega
      obtain rfl : i = l.length := by omega
      have hfi : -1 = N := by rw [← hst.out, fs_end]
      subst hfi
      clear hst
      go_wp2
      go_ret
      exact ⟨rfl, hbw⟩
end Go.Proofs.YtmklkcefbabhbaaGreat.R6

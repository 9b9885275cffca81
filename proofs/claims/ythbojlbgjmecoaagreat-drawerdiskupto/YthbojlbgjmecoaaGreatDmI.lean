import Derived.Test.YthbojlbgjmecoaaGreatDmH
/- bytes.Clone; a file is cut. -/
namespace Go.Proofs.YthbojlbgjmecoaaGreat.DJ
open Go.RowKit

theorem byts_take {W : World} {a : Option Addr} {bs : List Nat} (h : Byts W a bs) (n : Nat) : Byts W a (bs.take n) := by
  obtain ⟨h0, h1 | ⟨b, off, rfl, hlt, hc⟩⟩ := h
  · exact ⟨fun x hx => h0 x (List.mem_of_mem_take hx), .inl (by rw [h1]; simp)⟩
  · refine ⟨fun x hx => h0 x (List.mem_of_mem_take hx), .inr ⟨b, off, rfl, hlt, fun i hi => ?_⟩⟩
    rw [List.length_take] at hi
    rw [hc i (by omega)]
    simp
theorem own_pos {W : World} {base n c : Nat} {a : Option Addr} {xs : List Value} (h : W.ownsRow base 5 1 (.slice a n c) n xs) : (a = none → c = 0) ∧ n ≤ c ∧ (0 < n → ∃ g, a = some ⟨g, 0, none⟩) := by
  obtain ⟨-, ⟨e, h0⟩ | ⟨g, cap, cur, e, hb, r, h1, -⟩⟩ := h
  · injection e with e1 e2 e3
    exact ⟨fun _ => e3, by omega, fun h => by omega⟩
  · injection e with e1 e2 e3
    exact ⟨fun h => (by rw [e1] at h; cases h), by omega, fun _ => ⟨g, e1⟩⟩

set_option maxRecDepth 4000 in
set_option maxHeartbeats 1000000 in
theorem bclone_any (a : Option Addr) (cap : Nat) (hcap : a = none → cap = 0) (bs : List Nat) (hlen : bs.length ≤ 140737488355328) (w : World) (h : Byts w a bs) :
    Calls Tryz.prog 35 #[.slice a bs.length cap] w fun e w' => ∃ p c, e = .returned (.slice p bs.length c) ∧ w'.ownsRow w.heap.size 5 1 (.slice p bs.length c) bs.length (bysV bs) ∧ Below w.heap.size w w' := by
  cases a with
  | none =>
    obtain rfl : bs = [] := by
      obtain ⟨-, h | ⟨b, off, e, -⟩⟩ := h
      · exact h
      · cases e
    obtain rfl := hcap rfl
    have hnil : ∀ W : World, (binOp BinOp.eql 34 (.slice none 0 0) (.slice none 0 0)).run Tryz.prog W = .ok (.bool true) W := fun _ => rfl
    go_enter Tryz.func35, Tryz.ntmps35
    go_wp2
    go_ret
    exact ⟨none, 0, rfl, World.ownsRow_nil _ _ _ _, Below.refl _ _⟩
  | some ad =>
    have hnil : ∀ W : World, (binOp BinOp.eql 34 (.slice (some ad) bs.length cap) (.slice none 0 0)).run Tryz.prog W = .ok (.bool false) W := fun _ => rfl
    have hr0 : (w.alloc (.cells #[] 5)).ownsRow w.heap.size 5 1 (.slice (some ⟨w.heap.size, 0, none⟩) 0 0) 0 [] := by
      have := World.ownsRow_made (base := w.heap.size) (e := 5) (size := 1) w #[] 0 (Nat.le_refl _) (by unfold maxLen; omega) rfl
      exact this
    have hb0 := (Below.refl w.heap.size w).alloc (Nat.le_refl _) (.cells #[] 5)
    go_enter Tryz.func35, Tryz.ntmps35
    go_wp2_with (at_builtin; go_loud (refine wpList_copyN _ rfl _ _ rfl w.heap.size (by simp) _ rfl hr0 (some ad) cap bs rfl hcap (h.later hb0) hlen ?_); intro a1 c1 w1 ho1 hB1 hb1)
    go_ret
    exact ⟨a1, c1, rfl, ho1, hb0.trans hb1⟩

def cutTo (n : Nat) (f : Fl) : Fl := if n < f.dat.length then ⟨f.nm, f.dat.take n, min f.sure n⟩ else f
theorem cutTo_trim {n : Nat} {f : Fl} (h : f.sure ≤ f.dat.length) : cutTo n f = trimF n f := by
  unfold cutTo trimF
  split
  · rw [List.length_take, show min n f.dat.length = n by omega]
  · rw [List.take_of_length_le (by omega), Nat.min_eq_left h]
theorem FileAt.cells {W : World} {lo fb : Nat} {v : Value} {f : Fl} (h : FileAt W lo fb v f) : W.cell? ⟨fb, 0, none⟩ = some v ∧ W.cell? ⟨fb, 1, none⟩ = some (.int .i64 (f.sure : Int)) ∧ W.frozen? ⟨fb, 0, none⟩ = false ∧ W.frozen? ⟨fb, 1, none⟩ = false :=
  ⟨cell_of_row _ _ 0 _ _ _ h.row, cell_of_row _ _ 1 _ _ _ h.row, frozen_of_row _ _ 0 _ _ h.row, frozen_of_row _ _ 1 _ _ h.row⟩

set_option maxRecDepth 4000 in
set_option maxHeartbeats 1000000 in
theorem cut_any {lo fb : Nat} {v : Value} {f : Fl} {n : Nat} (hn : n ≤ 9223372036854775807) (hb : ∀ x ∈ f.dat, x < 256) (hl : f.dat.length ≤ 2097152) (hs : f.sure ≤ f.dat.length) (w : World) (hlo : lo ≤ w.heap.size) (h : FileAt w lo fb v f) :
    Calls Tryz.prog 75 #[.pointer (some ⟨fb, 0, none⟩), .int .i64 (n : Int)] w fun e w' => e = .returned (.tuple #[]) ∧ ∃ v', FileAt w' lo fb v' (cutTo n f) ∧ GrS (fun k => k = fb) w w' ∧ (v'.ownBlock = v.ownBlock ∨ ∀ k, v'.ownBlock = some k → w.heap.size ≤ k) := by
  obtain ⟨c0, c1, f0, f1⟩ := h.cells
  obtain ⟨p, c, rfl⟩ := own_lenB h.dat
  obtain ⟨hp1, hp2, hp3⟩ := own_pos h.dat
  have hby := byts_of_own hb h.dat
  by_cases hlt : n < f.dat.length
  · have hlt' : (n : Int) < (f.dat.length : Int) := by omega
    obtain ⟨g, rfl⟩ := hp3 (by omega)
    have hcl := bclone_any (some ⟨g, 0, none⟩) c (by simp) (f.dat.take n) (by rw [List.length_take]; omega) w (byts_take hby n)
    rw [List.length_take, Nat.min_eq_left (by omega)] at hcl
    have e : cutTo n f = ⟨f.nm, f.dat.take n, min f.sure n⟩ := by unfold cutTo; rw [if_pos hlt]
    rw [e]
    have hrow := h.row
    have hsn : (f.sure : Int) ≤ 9223372036854775807 := by omega
    have hfb : fb < w.heap.size := (Array.getElem?_eq_some_iff.1 hrow).1
    have hcap : (n : Int) ≤ (c : Int) := by omega
    have hn0 : (0 : Int) ≤ (n : Int) := by omega
    have hmin : Hid (min (f.sure : Int) (n : Int) = ((min f.sure n : Nat) : Int)) := ⟨by omega⟩
    clear h hby e hp1 hp2 hp3
    go_enter Tryz.func75, Tryz.ntmps75
    go_wp2_with (go_at_call 35; refine hcl.mono ?_; rintro e w2 ⟨p2, cc2, rfl, ho2, hb2⟩; have r2 := (hb2.block fb hfb).trans hrow; have d0 := cell_of_row _ _ 0 _ _ _ r2; have d1 := cell_of_row _ _ 1 _ _ _ r2; have e0 := frozen_of_row w2 fb 0 _ _ r2; have e1 := frozen_of_row w2 fb 1 _ _ r2; simp only [List.getElem?_toArray, List.getElem?_cons_zero, List.getElem?_cons_succ] at d0 d1)
    go_end0
    have hg := ((GrS.of_below hb2).trans (grS_set w2 fb 0 (.slice p2 n cc2))).trans (grS_set _ fb 1 (.int .i64 (min (f.sure : Int) (n : Int))))
    have hrow3 := heap_setCell_same _ _ 1 _ _ (.int .i64 (min (f.sure : Int) (n : Int))) (heap_setCell_same w2 fb 0 _ _ (.slice p2 n cc2) r2)
    have hne : ∀ k, (Value.slice p2 n cc2).ownBlock = some k → k ≠ fb := fun k hk e => by
      have := (own_row ho2 hk).1
      omega
    have ho3 := ((grS_set w2 fb 0 (.slice p2 n cc2)).trans (grS_set _ fb 1 (.int .i64 (min (f.sure : Int) (n : Int))))).own ho2 hne
    refine ⟨rfl, .slice p2 n cc2, ⟨?_, ?_⟩, hg, .inr fun k hk => (own_row ho2 hk).1⟩
    · rw [hrow3]
      show _ = some (Obj.cells #[_, .int .i64 ((min f.sure n : Nat) : Int)] _ _)
      rw [hmin.out]
      rfl
    · show World.ownsRow _ _ _ _ _ (f.dat.take n).length (bysV (f.dat.take n))
      rw [List.length_take, Nat.min_eq_left (by omega)]
      exact ho3.mono hlo
  · have hlt' : ¬ (n : Int) < (f.dat.length : Int) := by omega
    have e : cutTo n f = f := by unfold cutTo; rw [if_neg hlt]
    rw [e]
    have hH : Hid (FileAt w lo fb (.slice p f.dat.length c) f) := ⟨h⟩
    clear h hby e hp1 hp2 hp3
    go_enter Tryz.func75, Tryz.ntmps75
    go_wp2
    go_end0
    exact ⟨rfl, _, hH.out, .refl _ _, .inl rfl⟩

set_option maxRecDepth 4000 in
set_option maxHeartbeats 1000000 in
theorem sync1_any {lo fb : Nat} {v : Value} {f : Fl} (w : World) (h : FileAt w lo fb v f) :
    Calls Tryz.prog 72 #[.pointer (some ⟨fb, 0, none⟩)] w fun e w' => e = .returned (.tuple #[]) ∧ FileAt w' lo fb v (syncF f) ∧ GrS (fun k => k = fb) w w' := by
  obtain ⟨c0, c1, f0, f1⟩ := h.cells
  obtain ⟨p, c, rfl⟩ := own_lenB h.dat
  have hrow := heap_setCell_same _ _ 1 _ _ (.int .i64 (f.dat.length : Int)) h.row
  have hne : ∀ k, (Value.slice p f.dat.length c).ownBlock = some k → k ≠ fb := fun k hk e => by
    obtain ⟨-, cs, r⟩ := own_row h.dat hk
    rw [e, h.row] at r
    simp at r
  have hF : Hid (FileAt (w.setCell ⟨fb, 1, none⟩ (.int .i64 (f.dat.length : Int))) lo fb (.slice p f.dat.length c) (syncF f)) := ⟨⟨by rw [hrow]; rfl, (grS_set w fb 1 _).own h.dat hne⟩⟩
  clear h hrow hne
  go_enter Tryz.func72, Tryz.ntmps72
  go_wp2
  go_end0
  exact ⟨rfl, hF.out, grS_set w fb 1 _⟩

set_option maxRecDepth 4000 in
set_option maxHeartbeats 1000000 in
theorem trim1_any {lo fb : Nat} {v : Value} {f : Fl} {n : Int} (hn : n ≤ 9223372036854775807) (hn0 : -9223372036854775808 ≤ n) (hb : ∀ x ∈ f.dat, x < 256) (hl : f.dat.length ≤ 2097152) (hs : f.sure ≤ f.dat.length) (w : World) (hlo : lo ≤ w.heap.size) (sb : Nat) (hsb : w.cell? ⟨sb, 0, none⟩ = some (.int .i64 n)) (h : FileAt w lo fb v f) :
    Calls Tryz.prog 74 #[.pointer (some ⟨fb, 0, none⟩), .pointer (some ⟨sb, 0, none⟩)] w fun e w' => e = .returned (.tuple #[]) ∧ ∃ v', FileAt w' lo fb v' (trimF n.toNat f) ∧ GrS (fun k => k = fb) w w' ∧ (v'.ownBlock = v.ownBlock ∨ ∀ k, v'.ownBlock = some k → w.heap.size ≤ k) := by
  have hc := cut_any (n := n.toNat) (by omega) hb hl hs w hlo h
  rw [cutTo_trim hs] at hc
  have e : ((n.toNat : Nat) : Int) = max n 0 := by omega
  rw [e] at hc
  clear h e
  go_enter Tryz.func74, Tryz.ntmps74
  go_wp2_with (go_at_call 75; refine hc.mono ?_; rintro e w9 ⟨rfl, v', h1, h2, h3⟩)
  go_end0
  exact ⟨rfl, v', h1, h2, h3⟩
end Go.Proofs.YthbojlbgjmecoaaGreat.DJ

import Derived.Test.YtmklkcefbabhbaaGreatJoin12
namespace Go.Proofs.YtmklkcefbabhbaaGreat
open Go.RowKit

set_option maxRecDepth 8000 in
set_option maxHeartbeats 1000000 in
theorem putTexts (lo wb : Nat) (l : List (List UInt8)) (a : Option Addr) (cap : Nat) (hl : l.length ≤ 9223372036854775807 ∧ ∀ s ∈ l, s.length ≤ 9223372036854775807) (W : World) {acc : List UInt8} {b : Bool} (h : WS lo wb W acc b) (hR : RowR eS W (fun b => b < lo) l a) : Calls Tryz.prog 70 #[.pointer (some ⟨wb, 0, none⟩), .slice a l.length cap, .func (Fn.func 34) #[.pointer (some ⟨wb, 0, none⟩)] #[]] W (Wp lo wb acc b (encL encS l) True W) := by
  have hll : l.length ≤ 9223372036854775807 := hl.1
  have hk1 := wnumber_any lo wb l.length (by omega) W h
  have hsl : (l.length : Int) % 18446744073709551616 = (l.length : Int) := by omega
  clear h
  go_enter Tryz.func70, Tryz.ntmps70
  go_wp2_with (go_at_call 69; go_loud (refine hk1.mono ?_; clear hk1; rintro e w1 ⟨rfl, acc1, b1, hW1, hB1, hr1⟩))
  go_loopw [15] (fun iv W2 => ∃ (i : Nat) (acc2 : List UInt8) (b2 : Bool), iv = .int .i64 (i : Int) ∧ i ≤ l.length ∧ WS lo wb W2 acc2 b2 ∧ Bk lo wb W W2 ∧ Wr acc b acc2 b2 (encN l.length ++ (l.take i).flatMap encS) True) (fun iv _ => l.length - (intOf iv).toNat)
  case atStart => exact ⟨0, acc1, b1, rfl, Nat.zero_le _, hW1, hB1, by rw [List.take_zero, List.flatMap_nil, List.append_nil]; exact hr1⟩
  case round =>
    clear hW1 hB1 hr1 acc1 b1
    obtain ⟨i, acc2, b2, rfl, hi, hW2, hB2, hr2⟩ := hrel
    by_cases hlt : i < l.length
    · have hlt' : (i : Int) < (l.length : Int) := by omega
      have hi0 : (0 : Int) ≤ (i : Int) := by omega
      have hR2 := hR.fr hB2.bl.size (fun b hb _ => hB2.bl.block b hb)
      obtain ⟨⟨g, o, z⟩, rfl⟩ : ∃ p, a = some p := by
        rcases hR with h | ⟨g, o, _, e, _⟩
        · rw [h] at hlt; simp at hlt
        · exact ⟨_, e⟩
      obtain rfl : z = none := by
        rcases hR with h | ⟨g, o, _, e, _⟩
        · rw [h] at hlt; simp at hlt
        · injection e with e; injection e
      obtain ⟨cs, hcl, hg, hE, hc⟩ := hR2.item hlt
      have hE : cs = [.string ⟨(l[i]).toArray⟩] := hE
      subst hE
      have hil : (l[i]).length ≤ 9223372036854775807 := hl.2 _ (List.getElem_mem hlt)
      have k0 : wr.cell? ⟨g, o + i, none⟩ = some (.string ⟨(l[i]).toArray⟩) := by
        have h := hc 0 (by decide)
        rw [show o + i * eS.k + 0 = o + i from by show o + i * 1 + 0 = o + i; omega] at h
        exact h
      have hst : (l.take (i + 1)).flatMap encS = (l.take i).flatMap encS ++ encS (l[i]) := by rw [List.take_succ_eq_append_getElem hlt, List.flatMap_append, List.flatMap_singleton]
      have hst := Hid.mk hst
      have c1 := hW2.c1
      have hwl := hW2.lt
      have hk := wtext_any lo wb (l[i]) hil wr hW2
      clear hc hR hR2 hcl
      cases b2 with
      | true =>
        have hfin : ∀ W3, WS lo wb W3 acc2 true → Bk lo wb W W3 → Wp lo wb acc b (encL encS l) True W (.returned (.tuple #[])) W3 := fun W3 h3 h4 => ⟨rfl, acc2, true, h3, h4, fun h => by (cases h), fun h0 hl _ => by
          exact hr2.2 h0 (Nat.le_trans (Nat.add_le_add_left (take_le encS l i) _) hl) trivial⟩
        have hfin := hfin _ hW2 hB2
        clear hk hr2 hW2 hB2
        generalize l[i] = x at *
        go_wp2
        exact bodyPost_ret (v := .tuple #[]) (by simp [results, Tryz.results70, go_sem]) rfl hfin
      | false =>
        generalize l[i] = x at *
        go_wp2_with (go_at_call 34; go_loud (refine hk.mono ?_; clear hk; rintro e w3 ⟨rfl, acc3, b3, hW3, hB3, hr3⟩))
        go_roundw
        case rel => exact ⟨i + 1, acc3, b3, by go_num, by omega, hW3, hB2.trans hB3, by rw [hst.out, ← List.append_assoc]; exact hr2.tr hr3⟩
        case measure => simp [intOf]; omega
    · obtain rfl : i = l.length := by omega
      have hfin : Wp lo wb acc b (encL encS l) True W (.returned (.tuple #[])) wr := ⟨rfl, acc2, b2, hW2, hB2, by rw [List.take_length] at hr2; exact hr2⟩
      clear hW2 hB2 hr2 hR
      go_wp2
      exact bodyPost_end (v := .tuple #[]) (by simp [results, Tryz.results70, go_sem]) rfl hfin

end Go.Proofs.YtmklkcefbabhbaaGreat


namespace Go.Proofs.YtmklkcefbabhbaaGreat
open Go.RowKit

set_option maxRecDepth 8000 in
set_option maxHeartbeats 1000000 in
theorem wtable_any (lo wb : Nat) (t : List UInt8 × List (Int × Int)) (a : Option Addr) (cap : Nat) (hz : t.1.length ≤ 9223372036854775807 ∧ t.2.length ≤ 9223372036854775807) (W : World) {acc : List UInt8} {b : Bool} (h : WS lo wb W acc b) (hR : RowR eBd W (fun b => b < lo) t.2 a) : Calls Tryz.prog 39 #[.pointer (some ⟨wb, 0, none⟩), .agg #[.string ⟨t.1.toArray⟩, .slice a t.2.length cap]] W (Wp lo wb acc b (encT t) True W) := by
  obtain ⟨s, l⟩ := t
  unfold encT
  dsimp only at *
  have hlt := h.lt
  have hB0 : Bk lo wb W _ := Bk.alloc W (Nat.le_trans h.lo (Nat.le_of_lt h.lt)) (.cells #[.string ⟨s.toArray⟩, .slice a l.length cap] 52)
  have hk1 := wtext_any lo wb s hz.1 (W.alloc (.cells #[.string ⟨s.toArray⟩, .slice a l.length cap] 52)) (h.alloc _)
  clear h
  go_enter Tryz.func39, Tryz.ntmps39
  go_wp2_with (first | (go_at_call 34; go_loud (refine hk1.mono ?_; clear hk1; rintro e w1 ⟨rfl, acc1, b1, hW1, hB1, hr1⟩; have hn := (hB1.new hlt (by decide)).2.1 1 (by simp); have hB01 := hB0.trans hB1; have hk2 := putBands lo wb l a cap hz.2 w1 hW1 (hR.fr hB01.bl.size (fun b hb _ => hB01.bl.block b hb)))) | (go_at_call 71; go_loud (refine hk2.mono ?_; clear hk2; rintro e w2 ⟨rfl, acc2, b2, hW2, hB2, hr2⟩)))
  have hfin : Wp lo wb acc b (encS s ++ encL encBd l) True W (.returned (.tuple #[])) w2 := ⟨rfl, acc2, b2, hW2, hB01.trans hB2, hr1.tr hr2⟩
  exact bodyPost_end (v := .tuple #[]) (by simp [results, Tryz.results39, go_sem]) rfl hfin

set_option maxRecDepth 8000 in
set_option maxHeartbeats 1000000 in
theorem woptions_any (lo wb : Nat) (t : List UInt8 × List (List UInt8)) (a : Option Addr) (cap : Nat) (hz : t.1.length ≤ 9223372036854775807 ∧ t.2.length ≤ 9223372036854775807 ∧ ∀ s ∈ t.2, s.length ≤ 9223372036854775807) (W : World) {acc : List UInt8} {b : Bool} (h : WS lo wb W acc b) (hR : RowR eS W (fun b => b < lo) t.2 a) : Calls Tryz.prog 37 #[.pointer (some ⟨wb, 0, none⟩), .agg #[.string ⟨t.1.toArray⟩, .slice a t.2.length cap]] W (Wp lo wb acc b (encO t) True W) := by
  obtain ⟨s, l⟩ := t
  unfold encO
  dsimp only at *
  have hlt := h.lt
  have hB0 : Bk lo wb W _ := Bk.alloc W (Nat.le_trans h.lo (Nat.le_of_lt h.lt)) (.cells #[.string ⟨s.toArray⟩, .slice a l.length cap] 49)
  have hk1 := wtext_any lo wb s hz.1 (W.alloc (.cells #[.string ⟨s.toArray⟩, .slice a l.length cap] 49)) (h.alloc _)
  clear h
  go_enter Tryz.func37, Tryz.ntmps37
  go_wp2_with (first | (go_at_call 34; go_loud (refine hk1.mono ?_; clear hk1; rintro e w1 ⟨rfl, acc1, b1, hW1, hB1, hr1⟩; have hn := (hB1.new hlt (by decide)).2.1 1 (by simp); have hB01 := hB0.trans hB1; have hk2 := putTexts lo wb l a cap hz.2 w1 hW1 (hR.fr hB01.bl.size (fun b hb _ => hB01.bl.block b hb)))) | (go_at_call 70; go_loud (refine hk2.mono ?_; clear hk2; rintro e w2 ⟨rfl, acc2, b2, hW2, hB2, hr2⟩)))
  have hfin : Wp lo wb acc b (encS s ++ encL encS l) True W (.returned (.tuple #[])) w2 := ⟨rfl, acc2, b2, hW2, hB01.trans hB2, hr1.tr hr2⟩
  exact bodyPost_end (v := .tuple #[]) (by simp [results, Tryz.results37, go_sem]) rfl hfin

end Go.Proofs.YtmklkcefbabhbaaGreat


namespace Go.Proofs.YtmklkcefbabhbaaGreat
open Go.RowKit

set_option maxRecDepth 8000 in
set_option maxHeartbeats 1000000 in
theorem putGroups (lo wb : Nat) (l : List (List UInt8 × Int)) (a : Option Addr) (cap : Nat) (hl : l.length ≤ 9223372036854775807 ∧ ∀ x ∈ l, (fun x => x.1.length ≤ 9223372036854775807) x) (W : World) {acc : List UInt8} {b : Bool} (h : WS lo wb W acc b) (hR : RowR eG W (fun b => b < lo) l a) : Calls Tryz.prog 40 #[.pointer (some ⟨wb, 0, none⟩), .slice a l.length cap, .func (Fn.func 41) #[.pointer (some ⟨wb, 0, none⟩)] #[]] W (Wp lo wb acc b (encL encG l) True W) := by
  have hll : l.length ≤ 9223372036854775807 := hl.1
  have hk1 := wnumber_any lo wb l.length (by omega) W h
  have hsl : (l.length : Int) % 18446744073709551616 = (l.length : Int) := by omega
  clear h
  go_enter Tryz.func40, Tryz.ntmps40
  go_wp2_with (go_at_call 69; go_loud (refine hk1.mono ?_; clear hk1; rintro e w1 ⟨rfl, acc1, b1, hW1, hB1, hr1⟩))
  go_loopw [15] (fun iv W2 => ∃ (i : Nat) (acc2 : List UInt8) (b2 : Bool), iv = .int .i64 (i : Int) ∧ i ≤ l.length ∧ WS lo wb W2 acc2 b2 ∧ Bk lo wb W W2 ∧ Wr acc b acc2 b2 (encN l.length ++ (l.take i).flatMap encG) True) (fun iv _ => l.length - (intOf iv).toNat)
  case atStart => exact ⟨0, acc1, b1, rfl, Nat.zero_le _, hW1, hB1, by rw [List.take_zero, List.flatMap_nil, List.append_nil]; exact hr1⟩
  case round =>
    clear hW1 hB1 hr1 acc1 b1
    obtain ⟨i, acc2, b2, rfl, hi, hW2, hB2, hr2⟩ := hrel
    by_cases hlt : i < l.length
    · have hlt' : (i : Int) < (l.length : Int) := by omega
      have hi0 : (0 : Int) ≤ (i : Int) := by omega
      have hR2 := hR.fr hB2.bl.size (fun b hb _ => hB2.bl.block b hb)
      obtain ⟨⟨g, o, z⟩, rfl⟩ : ∃ p, a = some p := by
        rcases hR with h | ⟨g, o, _, e, _⟩
        · rw [h] at hlt; simp at hlt
        · exact ⟨_, e⟩
      obtain rfl : z = none := by
        rcases hR with h | ⟨g, o, _, e, _⟩
        · rw [h] at hlt; simp at hlt
        · injection e with e; injection e
      obtain ⟨cs, hcl, hg, hE, hc⟩ := hR2.item hlt
      have hil := hl.2 _ (List.getElem_mem hlt)
      have hE : cs = [.string ⟨(l[i]).1.toArray⟩, .int .i64 (l[i]).2] ∧ Rg (l[i]).2 := hE
      obtain ⟨rfl, hrg⟩ := hE
      have htl : (l[i]).1.length ≤ 9223372036854775807 := hil
      have k0 : wr.cell? ⟨g, o + i * 2, none⟩ = some (.string ⟨(l[i]).1.toArray⟩) := hc 0 (by decide)
      have k1 : wr.cell? ⟨g, o + i * 2 + 1, none⟩ = some (.int .i64 (l[i]).2) := hc 1 (by decide)
      have hst : (l.take (i + 1)).flatMap encG = (l.take i).flatMap encG ++ encG (l[i]) := by rw [List.take_succ_eq_append_getElem hlt, List.flatMap_append, List.flatMap_singleton]
      have hst := Hid.mk hst
      have c1 := hW2.c1
      have hwl := hW2.lt
      have hnew := bx_new wr #[.string ⟨(l[i]).1.toArray⟩, .int .i64 (l[i]).2] 81
      have hBn : Bk lo wb wr _ := Bk.alloc wr (Nat.le_trans hW2.lo (Nat.le_of_lt hwl)) (.cells #[.string ⟨(l[i]).1.toArray⟩, .int .i64 (l[i]).2] 81)
      have hk := wgroup_any lo wb (l[i]).1 (l[i]).2 htl hrg (wr.alloc (.cells #[.string ⟨(l[i]).1.toArray⟩, .int .i64 (l[i]).2] 81)) (hW2.alloc _)
      clear hc hR hR2 hcl hil
      cases b2 with
      | true =>
        have hfin : ∀ W3, WS lo wb W3 acc2 true → Bk lo wb W W3 → Wp lo wb acc b (encL encG l) True W (.returned (.tuple #[])) W3 := fun W3 h3 h4 => ⟨rfl, acc2, true, h3, h4, fun h => by (cases h), fun h0 hl _ => by
          exact hr2.2 h0 (Nat.le_trans (Nat.add_le_add_left (take_le encG l i) _) hl) trivial⟩
        have hfin := hfin _ (hW2.alloc (.cells #[.string ⟨(l[i]).1.toArray⟩, .int .i64 (l[i]).2] 81)) (hB2.trans hBn)
        clear hk hr2 hW2 hB2 hBn
        generalize l[i] = x at *
        go_wp2
        exact bodyPost_ret (v := .tuple #[]) (by simp [results, Tryz.results40, go_sem]) rfl hfin
      | false =>
        generalize l[i] = x at *
        go_wp2_with (go_at_call 41; go_loud (refine hk.mono ?_; clear hk; rintro e w3 ⟨rfl, acc3, b3, hW3, hB3, hr3⟩))
        go_roundw
        case rel => exact ⟨i + 1, acc3, b3, by go_num, by omega, hW3, (hB2.trans hBn).trans hB3, by rw [hst.out, ← List.append_assoc]; exact hr2.tr hr3⟩
        case measure => simp [intOf]; omega
    · obtain rfl : i = l.length := by omega
      have hfin : Wp lo wb acc b (encL encG l) True W (.returned (.tuple #[])) wr := ⟨rfl, acc2, b2, hW2, hB2, by rw [List.take_length] at hr2; exact hr2⟩
      clear hW2 hB2 hr2 hR
      go_wp2
      exact bodyPost_end (v := .tuple #[]) (by simp [results, Tryz.results40, go_sem]) rfl hfin

set_option maxRecDepth 8000 in
set_option maxHeartbeats 1000000 in
theorem putTables (lo wb : Nat) (l : List (List UInt8 × List (Int × Int))) (a : Option Addr) (cap : Nat) (hl : l.length ≤ 9223372036854775807 ∧ ∀ x ∈ l, (fun t => t.1.length ≤ 9223372036854775807 ∧ t.2.length ≤ 9223372036854775807) x) (W : World) {acc : List UInt8} {b : Bool} (h : WS lo wb W acc b) (hR : RowR eT W (fun b => b < lo) l a) : Calls Tryz.prog 38 #[.pointer (some ⟨wb, 0, none⟩), .slice a l.length cap, .func (Fn.func 39) #[.pointer (some ⟨wb, 0, none⟩)] #[]] W (Wp lo wb acc b (encL encT l) True W) := by
  have hll : l.length ≤ 9223372036854775807 := hl.1
  have hk1 := wnumber_any lo wb l.length (by omega) W h
  have hsl : (l.length : Int) % 18446744073709551616 = (l.length : Int) := by omega
  clear h
  go_enter Tryz.func38, Tryz.ntmps38
  go_wp2_with (go_at_call 69; go_loud (refine hk1.mono ?_; clear hk1; rintro e w1 ⟨rfl, acc1, b1, hW1, hB1, hr1⟩))
  go_loopw [15] (fun iv W2 => ∃ (i : Nat) (acc2 : List UInt8) (b2 : Bool), iv = .int .i64 (i : Int) ∧ i ≤ l.length ∧ WS lo wb W2 acc2 b2 ∧ Bk lo wb W W2 ∧ Wr acc b acc2 b2 (encN l.length ++ (l.take i).flatMap encT) True) (fun iv _ => l.length - (intOf iv).toNat)
  case atStart => exact ⟨0, acc1, b1, rfl, Nat.zero_le _, hW1, hB1, by rw [List.take_zero, List.flatMap_nil, List.append_nil]; exact hr1⟩
  case round =>
    clear hW1 hB1 hr1 acc1 b1
    obtain ⟨i, acc2, b2, rfl, hi, hW2, hB2, hr2⟩ := hrel
    by_cases hlt : i < l.length
    · have hlt' : (i : Int) < (l.length : Int) := by omega
      have hi0 : (0 : Int) ≤ (i : Int) := by omega
      have hR2 := hR.fr hB2.bl.size (fun b hb _ => hB2.bl.block b hb)
      obtain ⟨⟨g, o, z⟩, rfl⟩ : ∃ p, a = some p := by
        rcases hR with h | ⟨g, o, _, e, _⟩
        · rw [h] at hlt; simp at hlt
        · exact ⟨_, e⟩
      obtain rfl : z = none := by
        rcases hR with h | ⟨g, o, _, e, _⟩
        · rw [h] at hlt; simp at hlt
        · injection e with e; injection e
      obtain ⟨cs, hcl, hg, hE, hc⟩ := hR2.item hlt
      have hil := hl.2 _ (List.getElem_mem hlt)
      have hE : ∃ a cap, cs = [.string ⟨(l[i]).1.toArray⟩, .slice a (l[i]).2.length cap] ∧ RowR eBd wr (fun b => b < lo) (l[i]).2 a := hE
      obtain ⟨a2, cap2, rfl, hRx⟩ := hE
      have k0 : wr.cell? ⟨g, o + i * 2, none⟩ = some (.string ⟨(l[i]).1.toArray⟩) := hc 0 (by decide)
      have k1 : wr.cell? ⟨g, o + i * 2 + 1, none⟩ = some (.slice a2 (l[i]).2.length cap2) := hc 1 (by decide)
      have hst : (l.take (i + 1)).flatMap encT = (l.take i).flatMap encT ++ encT (l[i]) := by rw [List.take_succ_eq_append_getElem hlt, List.flatMap_append, List.flatMap_singleton]
      have hst := Hid.mk hst
      have c1 := hW2.c1
      have hwl := hW2.lt
      have hnew := bx_new wr #[.string ⟨(l[i]).1.toArray⟩, .slice a2 (l[i]).2.length cap2] 52
      have hBn : Bk lo wb wr _ := Bk.alloc wr (Nat.le_trans hW2.lo (Nat.le_of_lt hwl)) (.cells #[.string ⟨(l[i]).1.toArray⟩, .slice a2 (l[i]).2.length cap2] 52)
      have hk := wtable_any lo wb (l[i]) a2 cap2 hil (wr.alloc (.cells #[.string ⟨(l[i]).1.toArray⟩, .slice a2 (l[i]).2.length cap2] 52)) (hW2.alloc _) (hRx.fr hBn.bl.size (fun b hb _ => hBn.bl.block b hb))
      clear hc hR hR2 hcl hil
      cases b2 with
      | true =>
        have hfin : ∀ W3, WS lo wb W3 acc2 true → Bk lo wb W W3 → Wp lo wb acc b (encL encT l) True W (.returned (.tuple #[])) W3 := fun W3 h3 h4 => ⟨rfl, acc2, true, h3, h4, fun h => by (cases h), fun h0 hl _ => by
          exact hr2.2 h0 (Nat.le_trans (Nat.add_le_add_left (take_le encT l i) _) hl) trivial⟩
        have hfin := hfin _ (hW2.alloc (.cells #[.string ⟨(l[i]).1.toArray⟩, .slice a2 (l[i]).2.length cap2] 52)) (hB2.trans hBn)
        clear hk hr2 hW2 hB2 hBn
        generalize l[i] = x at *
        go_wp2
        exact bodyPost_ret (v := .tuple #[]) (by simp [results, Tryz.results38, go_sem]) rfl hfin
      | false =>
        generalize l[i] = x at *
        go_wp2_with (go_at_call 39; go_loud (refine hk.mono ?_; clear hk; rintro e w3 ⟨rfl, acc3, b3, hW3, hB3, hr3⟩))
        go_roundw
        case rel => exact ⟨i + 1, acc3, b3, by go_num, by omega, hW3, (hB2.trans hBn).trans hB3, by rw [hst.out, ← List.append_assoc]; exact hr2.tr hr3⟩
        case measure => simp [intOf]; omega
    · obtain rfl : i = l.length := by omega
      have hfin : Wp lo wb acc b (encL encT l) True W (.returned (.tuple #[])) wr := ⟨rfl, acc2, b2, hW2, hB2, by rw [List.take_length] at hr2; exact hr2⟩
      clear hW2 hB2 hr2 hR
      go_wp2
      exact bodyPost_end (v := .tuple #[]) (by simp [results, Tryz.results38, go_sem]) rfl hfin

set_option maxRecDepth 8000 in
set_option maxHeartbeats 1000000 in
theorem putOptions (lo wb : Nat) (l : List (List UInt8 × List (List UInt8))) (a : Option Addr) (cap : Nat) (hl : l.length ≤ 9223372036854775807 ∧ ∀ x ∈ l, (fun t => t.1.length ≤ 9223372036854775807 ∧ t.2.length ≤ 9223372036854775807 ∧ ∀ s ∈ t.2, s.length ≤ 9223372036854775807) x) (W : World) {acc : List UInt8} {b : Bool} (h : WS lo wb W acc b) (hR : RowR eO W (fun b => b < lo) l a) : Calls Tryz.prog 36 #[.pointer (some ⟨wb, 0, none⟩), .slice a l.length cap, .func (Fn.func 37) #[.pointer (some ⟨wb, 0, none⟩)] #[]] W (Wp lo wb acc b (encL encO l) True W) := by
  have hll : l.length ≤ 9223372036854775807 := hl.1
  have hk1 := wnumber_any lo wb l.length (by omega) W h
  have hsl : (l.length : Int) % 18446744073709551616 = (l.length : Int) := by omega
  clear h
  go_enter Tryz.func36, Tryz.ntmps36
  go_wp2_with (go_at_call 69; go_loud (refine hk1.mono ?_; clear hk1; rintro e w1 ⟨rfl, acc1, b1, hW1, hB1, hr1⟩))
  go_loopw [15] (fun iv W2 => ∃ (i : Nat) (acc2 : List UInt8) (b2 : Bool), iv = .int .i64 (i : Int) ∧ i ≤ l.length ∧ WS lo wb W2 acc2 b2 ∧ Bk lo wb W W2 ∧ Wr acc b acc2 b2 (encN l.length ++ (l.take i).flatMap encO) True) (fun iv _ => l.length - (intOf iv).toNat)
  case atStart => exact ⟨0, acc1, b1, rfl, Nat.zero_le _, hW1, hB1, by rw [List.take_zero, List.flatMap_nil, List.append_nil]; exact hr1⟩
  case round =>
    clear hW1 hB1 hr1 acc1 b1
    obtain ⟨i, acc2, b2, rfl, hi, hW2, hB2, hr2⟩ := hrel
    by_cases hlt : i < l.length
    · have hlt' : (i : Int) < (l.length : Int) := by omega
      have hi0 : (0 : Int) ≤ (i : Int) := by omega
      have hR2 := hR.fr hB2.bl.size (fun b hb _ => hB2.bl.block b hb)
      obtain ⟨⟨g, o, z⟩, rfl⟩ : ∃ p, a = some p := by
        rcases hR with h | ⟨g, o, _, e, _⟩
        · rw [h] at hlt; simp at hlt
        · exact ⟨_, e⟩
      obtain rfl : z = none := by
        rcases hR with h | ⟨g, o, _, e, _⟩
        · rw [h] at hlt; simp at hlt
        · injection e with e; injection e
      obtain ⟨cs, hcl, hg, hE, hc⟩ := hR2.item hlt
      have hil := hl.2 _ (List.getElem_mem hlt)
      have hE : ∃ a cap, cs = [.string ⟨(l[i]).1.toArray⟩, .slice a (l[i]).2.length cap] ∧ RowR eS wr (fun b => b < lo) (l[i]).2 a := hE
      obtain ⟨a2, cap2, rfl, hRx⟩ := hE
      have k0 : wr.cell? ⟨g, o + i * 2, none⟩ = some (.string ⟨(l[i]).1.toArray⟩) := hc 0 (by decide)
      have k1 : wr.cell? ⟨g, o + i * 2 + 1, none⟩ = some (.slice a2 (l[i]).2.length cap2) := hc 1 (by decide)
      have hst : (l.take (i + 1)).flatMap encO = (l.take i).flatMap encO ++ encO (l[i]) := by rw [List.take_succ_eq_append_getElem hlt, List.flatMap_append, List.flatMap_singleton]
      have hst := Hid.mk hst
      have c1 := hW2.c1
      have hwl := hW2.lt
      have hnew := bx_new wr #[.string ⟨(l[i]).1.toArray⟩, .slice a2 (l[i]).2.length cap2] 49
      have hBn : Bk lo wb wr _ := Bk.alloc wr (Nat.le_trans hW2.lo (Nat.le_of_lt hwl)) (.cells #[.string ⟨(l[i]).1.toArray⟩, .slice a2 (l[i]).2.length cap2] 49)
      have hk := woptions_any lo wb (l[i]) a2 cap2 hil (wr.alloc (.cells #[.string ⟨(l[i]).1.toArray⟩, .slice a2 (l[i]).2.length cap2] 49)) (hW2.alloc _) (hRx.fr hBn.bl.size (fun b hb _ => hBn.bl.block b hb))
      clear hc hR hR2 hcl hil
      cases b2 with
      | true =>
        have hfin : ∀ W3, WS lo wb W3 acc2 true → Bk lo wb W W3 → Wp lo wb acc b (encL encO l) True W (.returned (.tuple #[])) W3 := fun W3 h3 h4 => ⟨rfl, acc2, true, h3, h4, fun h => by (cases h), fun h0 hl _ => by
          exact hr2.2 h0 (Nat.le_trans (Nat.add_le_add_left (take_le encO l i) _) hl) trivial⟩
        have hfin := hfin _ (hW2.alloc (.cells #[.string ⟨(l[i]).1.toArray⟩, .slice a2 (l[i]).2.length cap2] 49)) (hB2.trans hBn)
        clear hk hr2 hW2 hB2 hBn
        generalize l[i] = x at *
        go_wp2
        exact bodyPost_ret (v := .tuple #[]) (by simp [results, Tryz.results36, go_sem]) rfl hfin
      | false =>
        generalize l[i] = x at *
        go_wp2_with (go_at_call 37; go_loud (refine hk.mono ?_; clear hk; rintro e w3 ⟨rfl, acc3, b3, hW3, hB3, hr3⟩))
        go_roundw
        case rel => exact ⟨i + 1, acc3, b3, by go_num, by omega, hW3, (hB2.trans hBn).trans hB3, by rw [hst.out, ← List.append_assoc]; exact hr2.tr hr3⟩
        case measure => simp [intOf]; omega
    · obtain rfl : i = l.length := by omega
      have hfin : Wp lo wb acc b (encL encO l) True W (.returned (.tuple #[])) wr := ⟨rfl, acc2, b2, hW2, hB2, by rw [List.take_length] at hr2; exact hr2⟩
      clear hW2 hB2 hr2 hR
      go_wp2
      exact bodyPost_end (v := .tuple #[]) (by simp [results, Tryz.results36, go_sem]) rfl hfin

end Go.Proofs.YtmklkcefbabhbaaGreat

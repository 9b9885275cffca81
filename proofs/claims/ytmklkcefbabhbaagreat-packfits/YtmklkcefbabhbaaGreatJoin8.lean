import Derived.Test.YtmklkcefbabhbaaGreatTurnPxC
import Derived.Deep.RegionHeld3
namespace Go.Proofs.YtmklkcefbabhbaaGreat
open Go.RowKit

def SumP (c : Rc) (at_ ft er : Nat) (W : World) (e : Ending) (W' : World) : Prop := ∃ at2 ft2 er2, e = .returned (.tuple #[]) ∧ RS c W' at2 ft2 er2 ∧ W.grownBy W' (some c.r) ∧ Xp (rSum c.l at_) ft er at2 ft2 er2 ()
theorem byts_of {c : Rc} {W : World} {at_ ft er : Nat} (h : RS c W at_ ft er) : Byts W c.a ((c.l.take at_).map UInt8.toNat) := by
  refine ⟨fun n hn => ?_, ?_⟩
  · obtain ⟨x, _, rfl⟩ := List.mem_map.1 hn
    exact x.toNat_lt
  · rcases h.by_ with h0 | ⟨b, off, ha, hlt, -, hc⟩
    · left
      rw [h0]
      simp
    · right
      refine ⟨b, off, ha, hlt, fun i hi => ?_⟩
      have hi2 : i < c.l.length := by
        rw [List.length_map, List.length_take] at hi
        omega
      rw [hc i hi2]
      simp
theorem beq_or (s q : List UInt8) : s = q ∨ (s == q) = false := by
  by_cases h : s = q
  · exact .inl h
  · exact .inr (by simp [h])
theorem conv4 (X : World) {N : Nat} (hN : N < 4294967296) : (convert 36 9 (.slice (some ⟨X.heap.size, 0, none⟩) 4 4)).run Tryz.prog (X.alloc (.cells #[.int .u8 ((N : Int) % 256), .int .u8 ((N : Int) / 256 % 256), .int .u8 ((N : Int) / 65536 % 256), .int .u8 ((N : Int) / 16777216)] 5)) = .ok (.string ⟨(sum4 N).toArray⟩) (X.alloc (.cells #[.int .u8 ((N : Int) % 256), .int .u8 ((N : Int) / 256 % 256), .int .u8 ((N : Int) / 65536 % 256), .int .u8 ((N : Int) / 16777216)] 5)) := by
  have hb : ∀ k : Nat, k < 256 → ((UInt8.ofNat k).toNat : Int) = (k : Int) := fun k hk => by
    rw [UInt8.toNat_ofNat']
    omega
  refine conv_at _ ⟨X.heap.size, 0, none⟩ 4 (sum4 N) (fun j hj => ?_)
  rw [Go.WideShapes.add_plain, Nat.zero_add]
  match j, hj with
  | 0, _ => show _ = some (Value.int .u8 ((UInt8.ofNat (N % 256)).toNat : Int)); rw [hb _ (by omega)]; simp
  | 1, _ => show _ = some (Value.int .u8 ((UInt8.ofNat (N / 256 % 256)).toNat : Int)); rw [hb _ (by omega)]; simp
  | 2, _ => show _ = some (Value.int .u8 ((UInt8.ofNat (N / 65536 % 256)).toNat : Int)); rw [hb _ (by omega)]; simp
  | 3, _ => show _ = some (Value.int .u8 ((UInt8.ofNat (N / 16777216)).toNat : Int)); rw [hb _ (by omega)]; simp
set_option maxRecDepth 8000 in
set_option maxHeartbeats 4000000 in
theorem rsum_some (c : Rc) (W : World) {at_ ft er : Nat} (h : RS c W at_ ft er) (a : Addr) (ha : c.a = some a) : Calls Tryz.prog 61 #[.pointer (some ⟨c.r, 0, none⟩)] W (SumP c at_ ft er W) := by
  have c0 := h.c0
  rw [ha] at c0
  have c1 := h.c1
  have hle := h.le
  have hlc := h.lc
  have hln := h.ln
  have a0 : (0 : Int) ≤ (at_ : Int) := by omega
  have a1 : (at_ : Int) ≤ (c.cap : Int) := by omega
  have hl2 : ((c.l.take at_).map UInt8.toNat).length = at_ := by rw [List.length_map, List.length_take]; omega
  have hsum : ∀ X : World, Byts X c.a ((c.l.take at_).map UInt8.toNat) → Calls Tryz.prog 12 #[.slice (some a) at_ c.cap] X fun e X' => e = .returned (.int .u32 (fnvB (c.l.take at_) : Int)) ∧ X' = X := fun X hb => by
    have := sum_any c.a c.cap _ (by rw [hl2]; omega) X hb
    rw [hl2, ha] at this
    exact this
  have held : ∀ X : World, (X.cell? ⟨c.r, 0, none⟩ = some (.slice (some a) c.l.length c.cap) ∧ X.cell? ⟨c.r, 1, none⟩ = some (.int .i64 (at_ : Int)) ∧ RS c X at_ ft er ∧ W.grownBy X (some c.r)) → Calls Tryz.prog 12 #[.slice (some a) at_ c.cap] X fun e X' => e = .returned (.int .u32 (fnvB (c.l.take at_) : Int)) ∧ (X'.cell? ⟨c.r, 0, none⟩ = some (.slice (some a) c.l.length c.cap) ∧ X'.cell? ⟨c.r, 1, none⟩ = some (.int .i64 (at_ : Int)) ∧ RS c X' at_ ft er ∧ W.grownBy X' (some c.r)) := fun X hX => by
    refine (hsum X (byts_of hX.2.2.1)).mono ?_
    rintro e X' ⟨rfl, rfl⟩
    exact ⟨rfl, hX⟩
  have hS0 : W.drew.cell? ⟨c.r, 0, none⟩ = some (.slice (some a) c.l.length c.cap) ∧ W.drew.cell? ⟨c.r, 1, none⟩ = some (.int .i64 (at_ : Int)) ∧ RS c W.drew at_ ft er ∧ W.grownBy W.drew (some c.r) := ⟨c0, c1, h.drew 1, gr_drew W 1 _⟩
  clear hsum c0 c1 h
  go_enter Tryz.func61, Tryz.ntmps61
  go_wp2
  go_region_held3 (fun X => X.cell? ⟨c.r, 0, none⟩ = some (.slice (some a) c.l.length c.cap) ∧ X.cell? ⟨c.r, 1, none⟩ = some (.int .i64 (at_ : Int)) ∧ RS c X at_ ft er ∧ W.grownBy X (some c.r)) (assumption)
    (first | (go_at_call 12; refine (held _ ?_).mono ?_; assumption; rintro e w1 ⟨rfl, hS1⟩))
  obtain ⟨-, -, hR1, hG1⟩ := hS1
  have hraw := raw_any 4 (by omega) c w1 hR1
  obtain ⟨N, hN⟩ : ∃ N, fnvB (c.l.take at_) = N := ⟨_, rfl⟩
  have hN32 : N < 4294967296 := by rw [← hN]; exact fnv_lt _
  rw [hN]
  have hN' : Hid (fnvB (c.l.take at_) = N) := ⟨hN⟩
  clear hN held
  go_wp2_with (first | (go_at_call 47; refine hraw.mono ?_; clear hraw; rintro e w2 ⟨s, at2, ft2, er2, rfl, h2, hg2, hp2⟩; have hcv := conv4 w2 hN32; have h2a := h2.alloc (.cells #[.int .u8 ((N : Int) % 256), .int .u8 ((N : Int) / 256 % 256), .int .u8 ((N : Int) / 65536 % 256), .int .u8 ((N : Int) / 16777216)] 5); have hg2a := (hG1.trans hg2).trans (World.grownBy_alloc w2 (.cells #[.int .u8 ((N : Int) % 256), .int .u8 ((N : Int) / 256 % 256), .int .u8 ((N : Int) / 65536 % 256), .int .u8 ((N : Int) / 16777216)] 5) (some c.r)); obtain ⟨q4, hq4⟩ : ∃ q, sum4 N = q := ⟨_, rfl⟩; rw [hq4] at hcv; have hq5 : Hid (sum4 N = q4) := ⟨hq4⟩; clear hq4; obtain ⟨d2, hd2⟩ : ∃ d, c.l.length - at2 = d := ⟨_, rfl⟩; have hlf := left_any c _ h2a; rw [hd2] at hlf; have c1a := h2a.c1; have hd3 : Hid (c.l.length - at2 = d2) := ⟨hd2⟩; clear hd2; have hf74 := fail_any c at_ 74 hle (by omega) _ h2a; rcases beq_or s q4 with hs | hs) | (go_at_call 78; refine hlf.mono ?_; clear hlf; rintro e wl ⟨rfl, nl, rfl⟩; by_cases hd0 : 0 < d2))
  · have hle2 := h2.le
    have hq : Xp (rSum c.l at_) ft er c.l.length (if er2 = 0 then at2 else ft2) (if er2 = 0 then 73 else er2) () := hp2.bd (Xp.fail (fun _ => by rw [if_pos (by rw [hN'.out, hq5.out]; exact hs), if_pos (by rw [hd3.out]; exact hd0)]) (by decide))
    clear hp2
    have hf73 := fail_any c at2 73 hle2 (by omega) _ (h2a.drew nl)
    go_wp2_with (go_at_call 48; refine hf73.mono ?_; rintro e w5 ⟨rfl, h5, hg5⟩)
    exact bodyPost_end (v := .tuple #[]) (by simp [results, Tryz.results61, go_sem]) rfl ⟨_, _, _, rfl, h5, (hg2a.trans (gr_drew _ _ _)).trans hg5, hq⟩
  · have hfin : SumP c at_ ft er W (.returned (.tuple #[])) (World.drewN (w2.alloc (.cells #[.int .u8 ((N : Int) % 256), .int .u8 ((N : Int) / 256 % 256), .int .u8 ((N : Int) / 65536 % 256), .int .u8 ((N : Int) / 16777216)] 5)) nl) := ⟨_, _, _, rfl, h2a.drew nl, hg2a.trans (gr_drew _ _ _), hp2.bd (by rw [if_pos (by rw [hN'.out, hq5.out]; exact hs), if_neg (by rw [hd3.out]; exact hd0)]; exact Xp.pure)⟩
    clear hp2 hs
    exact bodyPost_end (v := .tuple #[]) (by simp [results, Tryz.results61, go_sem]) rfl hfin
  · clear hlf
    have hq : Xp (rSum c.l at_) ft er c.l.length (if er2 = 0 then at_ else ft2) (if er2 = 0 then 74 else er2) () := hp2.bd (Xp.fail (fun _ => by rw [if_neg (by rw [hN'.out, hq5.out]; intro e; rw [e] at hs; simp at hs)]) (by decide))
    clear hp2
    go_wp2_with (first | (go_at_call 48; refine hf74.mono ?_; rintro e w5 ⟨rfl, h5, hg5⟩; have hlf5 := left_any c _ h5; rw [Nat.sub_self] at hlf5) | (go_at_call 78; refine hlf5.mono ?_; rintro e wl ⟨rfl, nl, rfl⟩))
    exact bodyPost_end (v := .tuple #[]) (by simp [results, Tryz.results61, go_sem]) rfl ⟨_, _, _, rfl, h5.drew nl, (hg2a.trans hg5).trans (gr_drew _ _ _), hq⟩

end Go.Proofs.YtmklkcefbabhbaaGreat


namespace Go.Proofs.YtmklkcefbabhbaaGreat
open Go.RowKit

set_option maxRecDepth 8000 in
set_option maxHeartbeats 4000000 in
theorem rsum_none (c : Rc) (W : World) {at_ ft er : Nat} (h : RS c W at_ ft er) (ha : c.a = none) : Calls Tryz.prog 61 #[.pointer (some ⟨c.r, 0, none⟩)] W (SumP c at_ ft er W) := by
  have hcz := h.cp ha
  have hl0 : c.l.length = 0 := by have := h.lc; omega
  obtain rfl : at_ = 0 := by have := h.le; omega
  have c0 := h.c0
  rw [ha, hl0, hcz] at c0
  have c1 := h.c1
  have hle := h.le
  have hln := h.ln
  have hl2 : ((c.l.take 0).map UInt8.toNat).length = 0 := by rw [List.length_map, List.length_take]; omega
  have hsum : ∀ X : World, Byts X c.a ((c.l.take 0).map UInt8.toNat) → Calls Tryz.prog 12 #[.slice none 0 0] X fun e X' => e = .returned (.int .u32 (fnvB (c.l.take 0) : Int)) ∧ X' = X := fun X hb => by
    have := sum_any c.a c.cap _ (by rw [hl2]; omega) X hb
    rw [hl2, ha, hcz] at this
    exact this
  have held : ∀ X : World, (X.cell? ⟨c.r, 0, none⟩ = some (.slice none 0 0) ∧ X.cell? ⟨c.r, 1, none⟩ = some (.int .i64 ((0 : Nat) : Int)) ∧ RS c X 0 ft er ∧ W.grownBy X (some c.r)) → Calls Tryz.prog 12 #[.slice none 0 0] X fun e X' => e = .returned (.int .u32 (fnvB (c.l.take 0) : Int)) ∧ (X'.cell? ⟨c.r, 0, none⟩ = some (.slice none 0 0) ∧ X'.cell? ⟨c.r, 1, none⟩ = some (.int .i64 ((0 : Nat) : Int)) ∧ RS c X' 0 ft er ∧ W.grownBy X' (some c.r)) := fun X hX => by
    refine (hsum X (byts_of hX.2.2.1)).mono ?_
    rintro e X' ⟨rfl, rfl⟩
    exact ⟨rfl, hX⟩
  have hS0 : W.drew.cell? ⟨c.r, 0, none⟩ = some (.slice none 0 0) ∧ W.drew.cell? ⟨c.r, 1, none⟩ = some (.int .i64 ((0 : Nat) : Int)) ∧ RS c W.drew 0 ft er ∧ W.grownBy W.drew (some c.r) := ⟨c0, c1, h.drew 1, gr_drew W 1 _⟩
  clear hsum c0 c1 h
  go_enter Tryz.func61, Tryz.ntmps61
  go_wp2
  go_region_held3 (fun X => X.cell? ⟨c.r, 0, none⟩ = some (.slice none 0 0) ∧ X.cell? ⟨c.r, 1, none⟩ = some (.int .i64 ((0 : Nat) : Int)) ∧ RS c X 0 ft er ∧ W.grownBy X (some c.r)) (assumption)
    (first | (go_at_call 12; refine (held _ ?_).mono ?_; assumption; rintro e w1 ⟨rfl, hS1⟩))
  obtain ⟨-, -, hR1, hG1⟩ := hS1
  have hraw := raw_any 4 (by omega) c w1 hR1
  obtain ⟨N, hN⟩ : ∃ N, fnvB [] = N := ⟨_, rfl⟩
  have hN32 : N < 4294967296 := by rw [← hN]; exact fnv_lt _
  rw [hN]
  have hN' : Hid (fnvB (c.l.take 0) = N) := ⟨by rw [List.take_zero]; exact hN⟩
  clear hN held
  go_wp2_with (first | (go_at_call 47; refine hraw.mono ?_; clear hraw; rintro e w2 ⟨s, at2, ft2, er2, rfl, h2, hg2, hp2⟩; have hcv := conv4 w2 hN32; have h2a := h2.alloc (.cells #[.int .u8 ((N : Int) % 256), .int .u8 ((N : Int) / 256 % 256), .int .u8 ((N : Int) / 65536 % 256), .int .u8 ((N : Int) / 16777216)] 5); have hg2a := (hG1.trans hg2).trans (World.grownBy_alloc w2 (.cells #[.int .u8 ((N : Int) % 256), .int .u8 ((N : Int) / 256 % 256), .int .u8 ((N : Int) / 65536 % 256), .int .u8 ((N : Int) / 16777216)] 5) (some c.r)); obtain ⟨q4, hq4⟩ : ∃ q, sum4 N = q := ⟨_, rfl⟩; rw [hq4] at hcv; have hq5 : Hid (sum4 N = q4) := ⟨hq4⟩; clear hq4; obtain ⟨d2, hd2⟩ : ∃ d, c.l.length - at2 = d := ⟨_, rfl⟩; have hlf := left_any c _ h2a; rw [hd2] at hlf; have c1a := h2a.c1; have hd3 : Hid (c.l.length - at2 = d2) := ⟨hd2⟩; clear hd2; have hf74 := fail_any c 0 74 hle (by omega) _ h2a; rcases beq_or s q4 with hs | hs) | (go_at_call 78; refine hlf.mono ?_; clear hlf; rintro e wl ⟨rfl, nl, rfl⟩; by_cases hd0 : 0 < d2))
  · have hle2 := h2.le
    have hq : Xp (rSum c.l 0) ft er c.l.length (if er2 = 0 then at2 else ft2) (if er2 = 0 then 73 else er2) () := hp2.bd (Xp.fail (fun _ => by rw [if_pos (by rw [hN'.out, hq5.out]; exact hs), if_pos (by rw [hd3.out]; exact hd0)]) (by decide))
    clear hp2
    have hf73 := fail_any c at2 73 hle2 (by omega) _ (h2a.drew nl)
    go_wp2_with (go_at_call 48; refine hf73.mono ?_; rintro e w5 ⟨rfl, h5, hg5⟩)
    exact bodyPost_end (v := .tuple #[]) (by simp [results, Tryz.results61, go_sem]) rfl ⟨_, _, _, rfl, h5, (hg2a.trans (gr_drew _ _ _)).trans hg5, hq⟩
  · have hfin : SumP c 0 ft er W (.returned (.tuple #[])) (World.drewN (w2.alloc (.cells #[.int .u8 ((N : Int) % 256), .int .u8 ((N : Int) / 256 % 256), .int .u8 ((N : Int) / 65536 % 256), .int .u8 ((N : Int) / 16777216)] 5)) nl) := ⟨_, _, _, rfl, h2a.drew nl, hg2a.trans (gr_drew _ _ _), hp2.bd (by rw [if_pos (by rw [hN'.out, hq5.out]; exact hs), if_neg (by rw [hd3.out]; exact hd0)]; exact Xp.pure)⟩
    clear hp2 hs
    exact bodyPost_end (v := .tuple #[]) (by simp [results, Tryz.results61, go_sem]) rfl hfin
  · clear hlf
    have hq : Xp (rSum c.l 0) ft er c.l.length (if er2 = 0 then 0 else ft2) (if er2 = 0 then 74 else er2) () := hp2.bd (Xp.fail (fun _ => by rw [if_neg (by rw [hN'.out, hq5.out]; intro e; rw [e] at hs; simp at hs)]) (by decide))
    clear hp2
    go_wp2_with (first | (go_at_call 48; refine hf74.mono ?_; rintro e w5 ⟨rfl, h5, hg5⟩; have hlf5 := left_any c _ h5; rw [Nat.sub_self] at hlf5) | (go_at_call 78; refine hlf5.mono ?_; rintro e wl ⟨rfl, nl, rfl⟩))
    exact bodyPost_end (v := .tuple #[]) (by simp [results, Tryz.results61, go_sem]) rfl ⟨_, _, _, rfl, h5.drew nl, (hg2a.trans hg5).trans (gr_drew _ _ _), hq⟩

theorem rsum_any (c : Rc) (W : World) {at_ ft er : Nat} (h : RS c W at_ ft er) : Calls Tryz.prog 61 #[.pointer (some ⟨c.r, 0, none⟩)] W (SumP c at_ ft er W) := by
  cases ha : c.a with
  | none => exact rsum_none c W h ha
  | some a => exact rsum_some c W h a ha

end Go.Proofs.YtmklkcefbabhbaaGreat

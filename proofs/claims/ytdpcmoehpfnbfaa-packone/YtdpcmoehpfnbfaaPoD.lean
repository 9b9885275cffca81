import Derived.Test.YtdpcmoehpfnbfaaPoC
namespace Go.Proofs.Ytdpcmoehpfnbfaa
open Go.RowKit

theorem get_cases (a : Option Addr) (cap : Nat) (l : List UInt8) (W : World) (h : InB W a cap l) : Calls Try.prog 5 #[.slice a l.length cap] W fun e W' => Below W.heap.size W W' ∧ ((∃ ft er : Nat, ft ≤ l.length ∧ er ≠ 0 ∧ e = .returned (.tuple #[.agg #[.string ⟨#[]⟩, .int .i64 0, .slice none 0 0, .slice none 0 0, .slice none 0 0, .slice none 0 0, .slice none 0 0], .int .i64 (ft : Int), .int .i64 (er : Int)])) ∨ ∃ (p : Pk) (a3 : Option Addr) (c3 : Nat) (a4 : Option Addr) (c4 : Nat) (a5 : Option Addr) (c5 : Nat) (a6 : Option Addr) (c6 : Nat) (a7 : Option Addr) (c7 : Nat), e = .returned (.tuple #[.agg #[.string ⟨p.name.toArray⟩, .int .i64 p.year, .slice a3 p.opts.length c3, .slice a4 p.tabs.length c4, .slice a5 p.grps.length c5, .slice a6 p.lns.length c6, .slice a7 p.cks.length c7], .int .i64 0, .int .i64 0]) ∧ PkE W' (fun b => b < W'.heap.size) p [.string ⟨p.name.toArray⟩, .int .i64 p.year, .slice a3 p.opts.length c3, .slice a4 p.tabs.length c4, .slice a5 p.grps.length c5, .slice a6 p.lns.length c6, .slice a7 p.cks.length c7] ∧ Hid (l.length ≤ 131072 ∧ l = encP p ++ sum4 (fnvB (encP p)) ∧ okP p)) := by
  refine (get_any a cap l W h).mono ?_
  rintro e W' ⟨hB, ⟨h1, rfl⟩ | ⟨-, ft, er, h1, h2, h3, rfl⟩ | ⟨hl, p, a2, cs, h1, rfl, hE⟩⟩
  · exact ⟨hB, .inl ⟨0, 72, Nat.zero_le _, by decide, rfl⟩⟩
  · exact ⟨hB, .inl ⟨ft, er, h3, h2, rfl⟩⟩
  · have hE0 := hE
    obtain ⟨a3, c3, a4, c4, a5, c5, a6, c6, a7, c7, rfl, -⟩ := hE0
    exact ⟨hB, .inr ⟨p, a3, c3, a4, c4, a5, c5, a6, c6, a7, c7, rfl, pke_mo hE (fun b hb _ => hb), ⟨hl, rPack_sound h1⟩⟩⟩
theorem put_back (p : Pk) (cs : List Value) (l : List UInt8) (W : World) (hE : PkE W (fun b => b < W.heap.size) p cs) (h : l.length ≤ 131072 ∧ l = encP p ++ sum4 (fnvB (encP p)) ∧ okP p) : Calls Try.prog 8 #[.agg cs.toArray] W fun e W' => Below W.heap.size W W' ∧ ∃ a cap, e = .returned (.tuple #[.slice a l.length cap, .int .i64 0]) ∧ InB W' a cap l := by
  obtain ⟨hl, he, hok⟩ := h
  have hl2 := congrArg List.length he
  rw [List.length_append] at hl2
  refine (put_any p cs (by omega) W hE).mono ?_
  rintro e W' ⟨hB, acc, b, hr, h⟩
  rw [← he] at hr
  have hb : b = false := hr.2 rfl (by simpa using hl) hok
  obtain ⟨-, hacc⟩ := hr.1 hb
  rw [List.nil_append] at hacc
  subst hacc
  rcases h with ⟨h, -⟩ | ⟨-, pa, cap, rfl, ho, -⟩
  · rw [hb] at h; cases h
  · exact ⟨hB, pa, cap, rfl, InB.of_own ho⟩
set_option maxRecDepth 8000 in
set_option maxHeartbeats 1000000 in
theorem one_walk (a : Option Addr) (cap : Nat) (l : List UInt8) (W : World) (h : InB W a cap l) : Calls Try.prog 3 #[.slice a l.length cap] W fun e W' => e = .returned (.bool true) ∧ Below W.heap.size W W' := by
  have hkn := known_any W
  by_cases hbig : 262144 < l.length
  · have hbig' : (262144 : Int) < (l.length : Int) := by omega
    go_enter Try.func3, Try.ntmps3
    go_wp2_with (first | (go_at_call 4; go_loud (refine hkn.mono ?_; clear hkn; rintro e w1 ⟨rfl, hB1⟩)))
    go_ret
    exact ⟨rfl, hB1⟩
  · have hbig' : ¬ (262144 : Int) < (l.length : Int) := by omega
    go_enter Try.func3, Try.ntmps3
    go_wp2_with (first | (go_at_call 4; go_loud (refine hkn.mono ?_; clear hkn; rintro e w1 ⟨rfl, hB1⟩; have hI1 := h.bel hB1 (Nat.le_refl _); have hget := get_cases a cap l w1 hI1)) | (go_at_call 5; go_loud (refine hget.mono ?_; clear hget; rintro e w2 ⟨hB2, ⟨ft, er, hft, her, rfl⟩ | ⟨p, a3, c3, a4, c4, a5, c5, a6, c6, a7, c7, rfl, hE, hp⟩⟩)))
    · have hB12 := Below.tr hB1 hB2 hB1.size
      have hB2q : Below W.heap.size W (w2.alloc (.cells #[.string ⟨#[]⟩, .int .i64 0, .slice none 0 0, .slice none 0 0, .slice none 0 0, .slice none 0 0, .slice none 0 0] 30)) := hB12.alloc hB12.size _
      have hsp := samePack0 none none none none none 0 0 0 0 0 (w2.alloc (.cells #[.string ⟨#[]⟩, .int .i64 0, .slice none 0 0, .slice none 0 0, .slice none 0 0, .slice none 0 0, .slice none 0 0] 30))
      have her' : ((er : Int) != 0) = true := by simp; omega
      have hft' : (ft : Int) ≤ (l.length : Int) := by omega
      have hft0 : (0 : Int) ≤ (ft : Int) := by omega
      clear hI1 hB2 hB12 her hft h
      go_wp2_with (first | (go_at_call 7; go_loud (refine hsp.mono ?_; clear hsp; rintro e w5 ⟨rfl, hB5⟩; have hB15 := Below.tr hB2q hB5 hB2q.size)) | (go_at_call 6; refine (num_any _ _).mono ?_; rintro e w ⟨rfl, rfl⟩))
      go_ret
      exact ⟨rfl, hB15⟩
    · have hB12 := Below.tr hB1 hB2 hB1.size
      have hB2q : Below W.heap.size W (w2.alloc (.cells #[.string ⟨p.name.toArray⟩, .int .i64 p.year, .slice a3 p.opts.length c3, .slice a4 p.tabs.length c4, .slice a5 p.grps.length c5, .slice a6 p.lns.length c6, .slice a7 p.cks.length c7] 30)) := hB12.alloc hB12.size _
      have hB2p : Below w2.heap.size w2 (w2.alloc (.cells #[.string ⟨p.name.toArray⟩, .int .i64 p.year, .slice a3 p.opts.length c3, .slice a4 p.tabs.length c4, .slice a5 p.grps.length c5, .slice a6 p.lns.length c6, .slice a7 p.cks.length c7] 30)) := (Below.refl _ _).alloc (Nat.le_refl _) _
      have hE2 := pke_mo (pke_fr hE hB2p.size (fun b hb _ => hB2p.block b hb)) (S' := fun b => b < (w2.alloc (.cells #[.string ⟨p.name.toArray⟩, .int .i64 p.year, .slice a3 p.opts.length c3, .slice a4 p.tabs.length c4, .slice a5 p.grps.length c5, .slice a6 p.lns.length c6, .slice a7 p.cks.length c7] 30)).heap.size) (fun b hb _ => hb)
      have hI2 := (hI1.bel hB2 (Nat.le_refl _)).bel hB2p (Nat.le_refl _)
      have hput := put_back p _ l _ hE2 hp.out
      clear hI1 hB2 hB12 hE hE2 h hp
      go_wp2_with (first | (go_at_call 8; go_loud (refine hput.mono ?_; clear hput; rintro e w3 ⟨hB3, a8, c8, rfl, hI8⟩; have hB13 := Below.tr hB2q hB3 hB2q.size; have hI3 := hI2.bel hB3 (Nat.le_refl _); have hsm := same_any a a8 cap c8 l l w3 hI3 hI8; rw [show (l == l) = true by simp] at hsm; clear hI8 hI3)) | (go_at_call 9; go_loud (refine hsm.mono ?_; clear hsm; rintro e w4 ⟨rfl, rfl⟩)) | (go_at_call 6; refine (num_any _ _).mono ?_; rintro e w ⟨rfl, rfl⟩))
      go_ret
      exact ⟨rfl, hB13⟩
end Go.Proofs.Ytdpcmoehpfnbfaa

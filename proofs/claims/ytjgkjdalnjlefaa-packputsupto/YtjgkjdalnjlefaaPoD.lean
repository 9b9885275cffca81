import Derived.Test.YtjgkjdalnjlefaaPoC
namespace Go.Proofs.Ytjgkjdalnjlefaa
open Go.RowKit

theorem get_cases (a : Option Addr) (cap : Nat) (l : List UInt8) (W : World) (h : InB W a cap l) : Calls Try.prog 7 #[.slice a l.length cap] W fun e W' => Below W.heap.size W W' ∧ ((∃ ft er : Nat, ft ≤ l.length ∧ er ≠ 0 ∧ e = .returned (.tuple #[.agg #[.string ⟨#[]⟩, .int .i64 0, .slice none 0 0, .slice none 0 0, .slice none 0 0, .slice none 0 0, .slice none 0 0], .int .i64 (ft : Int), .int .i64 (er : Int)])) ∨ ∃ (p : Pk) (a3 : Option Addr) (c3 : Nat) (a4 : Option Addr) (c4 : Nat) (a5 : Option Addr) (c5 : Nat) (a6 : Option Addr) (c6 : Nat) (a7 : Option Addr) (c7 : Nat), e = .returned (.tuple #[.agg #[.string ⟨p.name.toArray⟩, .int .i64 p.year, .slice a3 p.opts.length c3, .slice a4 p.tabs.length c4, .slice a5 p.grps.length c5, .slice a6 p.lns.length c6, .slice a7 p.cks.length c7], .int .i64 0, .int .i64 0]) ∧ PkE W' (fun b => b < W'.heap.size) p [.string ⟨p.name.toArray⟩, .int .i64 p.year, .slice a3 p.opts.length c3, .slice a4 p.tabs.length c4, .slice a5 p.grps.length c5, .slice a6 p.lns.length c6, .slice a7 p.cks.length c7] ∧ Hid (l.length ≤ 131072 ∧ l = encP p ++ sum4 (fnvB (encP p)) ∧ okP p)) := by
  refine (get_any a cap l W h).mono ?_
  rintro e W' ⟨hB, ⟨h1, rfl⟩ | ⟨-, ft, er, h1, h2, h3, rfl⟩ | ⟨hl, p, a2, cs, h1, rfl, hE⟩⟩
  · exact ⟨hB, .inl ⟨0, 72, Nat.zero_le _, by decide, rfl⟩⟩
  · exact ⟨hB, .inl ⟨ft, er, h3, h2, rfl⟩⟩
  · have hE0 := hE
    obtain ⟨a3, c3, a4, c4, a5, c5, a6, c6, a7, c7, rfl, -⟩ := hE0
    exact ⟨hB, .inr ⟨p, a3, c3, a4, c4, a5, c5, a6, c6, a7, c7, rfl, pke_mo hE (fun b hb _ => hb), ⟨hl, rPack_sound h1⟩⟩⟩
end Go.Proofs.Ytjgkjdalnjlefaa

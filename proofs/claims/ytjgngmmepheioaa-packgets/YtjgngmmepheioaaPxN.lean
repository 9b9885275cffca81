import Derived.Test.YtjgngmmepheioaaPxW
import Derived.Laws.Shifts
import Derived.Lib.EndianBits
namespace Go.Proofs.Ytjgngmmepheioaa
open Go.RowKit

def V64 (_ : World) (_ : Nat) (x : Nat) (v : Value) : Prop := v = .int .u64 (x : Int) ∧ x < 18446744073709551616
theorem Fl.to {β : Type} {M : List UInt8 → Nat → Rd β} {V : World → Nat → β → Value → Prop} {c : Rc} {p n at_ ft er : Nat} {W W' W2 : World} {v : Value} (x : β) (h : Fl c p n ft er W W') (hg : W2.grownBy W (some c.r)) (hV : V W' W2.heap.size x v) (hM : er = 0 → M c.l at_ = .error (p, n)) (hn : n ≠ 0) : Xc M V c at_ ft er W2 (.returned v) W' := ⟨x, v, _, _, _, rfl, hV, h.1, hg.trans h.2, Xp.fail hM hn⟩

set_option maxRecDepth 8000 in
set_option maxHeartbeats 4000000 in
theorem number_none (c : Rc) (W : World) {at_ ft er : Nat} (h : RS c W at_ ft er) (hat : at_ = c.l.length) : Calls Try.prog 67 #[.pointer (some ⟨c.r, 0, none⟩)] W (Xc rN V64 c at_ ft er W) := by
  have c0 := h.c0
  have c1 := h.c1
  have hln := h.ln
  have hlc := h.lc
  have hcp := h.cp
  have a0 : (0 : Int) ≤ (at_ : Int) := by omega
  have a1 : (at_ : Int) ≤ (c.l.length : Int) := by omega
  have a2 : (c.l.length : Int) ≤ (c.cap : Int) := by omega
  have h0 : c.l.length - at_ = 0 := by omega
  have hle : at_ ≤ c.cap := by omega
  have hsh := fun n => short_any c (World.drewN W n) (h.drew n)
  have hM : rN c.l at_ = .error (c.l.length, 70) := by
    unfold rN
    rw [List.drop_eq_nil_of_le (by omega)]
    rfl
  have hto := fun n W' (hf : Fl c c.l.length 70 ft er (World.drewN W n) W') => Fl.to (M := rN) (V := V64) (at_ := at_) (v := .int .u64 0) 0 hf (gr_drew W n _) ⟨rfl, by decide⟩ (fun _ => hM) (by decide)
  clear hM
  clear h hat hlc
  generalize c.l.length = len at *
  by_cases hcap : c.cap = at_
  · cases ha : c.a with
    | none =>
      rw [ha] at c0
      go_enter Try.func67, Try.ntmps67
      go_wp2
      go_quiet (fail)
      go_wp2
      refine wp_loop_rounds 1 ?_
      rw [rounds_succ]
      go_wp2_with (go_at_call 65; refine (hsh _).mono ?_; rintro e w1 ⟨rfl, hb1⟩)
      exact bodyPost_ret (v := .int .u64 0) (by simp [results, Try.results67, go_sem]) rfl (hto _ _ hb1)
    | some p =>
      rw [ha] at c0
      go_enter Try.func67, Try.ntmps67
      go_wp2
      go_quiet (fail)
      go_wp2
      refine wp_loop_rounds 1 ?_
      rw [rounds_succ]
      go_wp2_with (go_at_call 65; refine (hsh _).mono ?_; rintro e w1 ⟨rfl, hb1⟩)
      exact bodyPost_ret (v := .int .u64 0) (by simp [results, Try.results67, go_sem]) rfl (hto _ _ hb1)
  · cases ha : c.a with
    | none => exact absurd (hcp ha) (by omega)
    | some p =>
      rw [ha] at c0
      go_enter Try.func67, Try.ntmps67
      go_wp2
      go_quiet (fail)
      go_wp2
      refine wp_loop_rounds 1 ?_
      rw [rounds_succ]
      go_wp2_with (go_at_call 65; refine (hsh _).mono ?_; rintro e w1 ⟨rfl, hb1⟩)
      exact bodyPost_ret (v := .int .u64 0) (by simp [results, Try.results67, go_sem]) rfl (hto _ _ hb1)

end Go.Proofs.Ytjgngmmepheioaa

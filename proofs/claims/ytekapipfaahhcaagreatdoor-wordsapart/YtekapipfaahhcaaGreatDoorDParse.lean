import Derived.Test.YtekapipfaahhcaaGreatDoorDForm
import Derived.Test.YtekapipfaahhcaaGreatDoorDFace
import Derived.Test.YtekapipfaahhcaaGreatDoorDHeld
namespace Go.Proofs.YtekapipfaahhcaaGreatDoor
open Go.RowKit

/-- the digit at a place -/
def cc (s : ByteArray) (i : Nat) : Int := if h : i < s.size then (s[i].toNat : Int) - 48 else 0

set_option maxRecDepth 4000 in
set_option maxHeartbeats 2000000 in
theorem parse_bad (s : ByteArray) (r : Nat) (hr : r ≤ 10) (hs : r ≤ s.size) (hok : ∀ i (h : i < s.size), i < r → ck i s[i].toNat = true) (hend : r = 10 ∨ r = s.size ∨ ∃ h : r < s.size, ck r s[r].toNat = false) (hbad : r < 10 ∨ 10 < s.size) (w : World) :
    Calls Tryz.prog 137 #[.string s] w fun e w' => e = .returned (.tuple #[.int .i64 0, .int .i64 r, .int .i64 22]) ∧ Below w.heap.size w w' := by
  have hF := formed_any s r hr hs hok hend w
  clear hok hend
  by_cases c : r < 10
  · have c1 : (r : Int) < 10 := by omega
    go_enter Tryz.func137, Tryz.ntmps137
    go_wp2_with (go_at_call 146; refine hF.mono ?_; clear hF; rintro _ w1 ⟨rfl, hb1⟩)
    exact bodyPost_ret (v := .tuple #[.int .i64 0, .int .i64 r, .int .i64 22]) (by simp [results, Tryz.results137, go_sem]) rfl ⟨rfl, hb1⟩
  · have c1 : ¬ (r : Int) < 10 := by omega
    have c2 : (10 : Int) < s.size := by omega
    go_enter Tryz.func137, Tryz.ntmps137
    go_wp2_with (go_at_call 146; refine hF.mono ?_; clear hF; rintro _ w1 ⟨rfl, hb1⟩)
    exact bodyPost_ret (v := .tuple #[.int .i64 0, .int .i64 r, .int .i64 22]) (by simp [results, Tryz.results137, go_sem]) rfl ⟨rfl, hb1⟩

theorem digits_ext (s : ByteArray) (a b : Nat) (hab : a ≤ b) (hb : b ≤ s.size) (hlen : b - a ≤ 9) (hd : ∀ i (h : i < s.size), a ≤ i → i < b → 48 ≤ s[i].toNat ∧ s[i].toNat ≤ 57) (w : World) :
    Calls Tryz.prog 148 #[.string (s.extract a b)] w fun e w' => e = .returned (.int .i64 (dval (fun i => cc s (a + i)) (b - a))) ∧ w' = w := by
  have hsz : (s.extract a b).size = b - a := by rw [ByteArray.size_extract]; omega
  have h := digits_any (s.extract a b) (by omega) (fun i => cc s (a + i)) (fun i hi => by
    have hi2 : a + i < s.size := by omega
    rw [ByteArray.getElem_extract]
    have := hd (a + i) hi2 (by omega) (by omega)
    unfold cc
    rw [dif_pos hi2]
    omega) w
  rw [hsz] at h
  exact h
theorem ck_digit {i : Nat} {c : UInt8} (h : ck i c.toNat = true) (hi : ¬ (i = 4 ∨ i = 7)) : 48 ≤ c.toNat ∧ c.toNat ≤ 57 := by
  unfold ck at h
  rw [if_neg hi] at h
  have := of_decide_eq_true h
  omega

set_option maxRecDepth 4000 in
set_option maxHeartbeats 2000000 in
theorem parse_good (s : ByteArray) (hsz : s.size = 10) (hok : ∀ i (h : i < s.size), ck i s[i].toNat = true) (v e : Int) (hv : Hid ((v, e) = D.num (dval (fun i => cc s (0 + i)) (4 - 0)) (dval (fun i => cc s (5 + i)) (7 - 5)) (dval (fun i => cc s (8 + i)) (10 - 8)))) (w : World) (hM : Mon w) :
    Calls Tryz.prog 137 #[.string s] w fun en w' => en = .returned (.tuple #[.int .i64 v, .int .i64 (if e = 0 then 10 else 0), .int .i64 e]) ∧ Below w.heap.size w w' := by
  have hF := formed_any s 10 (by omega) (by omega) (fun i h _ => hok i h) (.inl rfl) w
  have c2 : ¬ (10 : Int) < s.size := by omega
  have hA := fun W => same_below (digits_ext s 0 4 (by omega) (by omega) (by omega) (fun i h h1 h2 => ck_digit (hok i h) (by omega)) W)
  have hB := fun W => same_below (digits_ext s 5 7 (by omega) (by omega) (by omega) (fun i h h1 h2 => ck_digit (hok i h) (by omega)) W)
  have hC := fun W => same_below (digits_ext s 8 10 (by omega) (by omega) (by omega) (fun i h h1 h2 => ck_digit (hok i h) (by omega)) W)
  generalize dval (fun i => cc s (0 + i)) (4 - 0) = Y at *
  generalize dval (fun i => cc s (5 + i)) (7 - 5) = M at *
  generalize dval (fun i => cc s (8 + i)) (10 - 8) = K at *
  clear hok
  go_enter Tryz.func137, Tryz.ntmps137
  go_wp2_with (go_at_call 146; refine hF.mono ?_; clear hF; rintro _ w1 ⟨rfl, hb1⟩)
  have hM1 := hM.later hb1
  have hst : Stb (fun X => Mon X ∧ Below w.heap.size w X) := stb_mon.and stb_below
  have hS := hst _ _ ⟨hM1, hb1⟩ (Below.refl w1.heap.size w1).drew
  go_region_held3 (fun X => Mon X ∧ Below w.heap.size w X) (with_reducible assumption)
    (first | (go_at_call_of 148 (Value.string (s.extract 0 4)); refine (heldP hst ?_ (fun _ => hA _)).mono ?_; with_reducible assumption; rintro _ w2 ⟨rfl, hS⟩) | (go_at_call_of 148 (Value.string (s.extract 5 7)); refine (heldP hst ?_ (fun _ => hB _)).mono ?_; with_reducible assumption; rintro _ w2 ⟨rfl, hS⟩) | (go_at_call_of 148 (Value.string (s.extract 8 10)); refine (heldP hst ?_ (fun _ => hC _)).mono ?_; with_reducible assumption; rintro _ w2 ⟨rfl, hS⟩) | (go_at_call 147; refine (heldP hst ?_ (fun h => number_any Y M K _ h.1 v e hv)).mono ?_; with_reducible assumption; rintro _ w2 ⟨rfl, hS⟩))
  have hv0 : e = 0 ∨ (e = 20 ∧ v = 0) ∨ (e = 21 ∧ v = 0) := by
    have h := hv.out
    unfold D.num at h
    split at h
    · obtain ⟨rfl, rfl⟩ := Prod.mk.inj h
      exact .inr (.inl ⟨rfl, rfl⟩)
    · split at h
      · obtain ⟨rfl, rfl⟩ := Prod.mk.inj h
        exact .inr (.inr ⟨rfl, rfl⟩)
      · exact .inl (Prod.mk.inj h).2
  clear hA hB hC hv hst
  rcases hv0 with rfl | ⟨rfl, rfl⟩ | ⟨rfl, rfl⟩
  · go_wp2
    exact bodyPost_ret (v := .tuple #[.int .i64 v, .int .i64 10, .int .i64 0]) (by simp [results, Tryz.results137, go_sem]) rfl ⟨by simp, hS.2⟩
  · go_wp2
    exact bodyPost_ret (v := .tuple #[.int .i64 0, .int .i64 0, .int .i64 20]) (by simp [results, Tryz.results137, go_sem]) rfl ⟨by simp, hS.2⟩
  · go_wp2
    exact bodyPost_ret (v := .tuple #[.int .i64 0, .int .i64 0, .int .i64 21]) (by simp [results, Tryz.results137, go_sem]) rfl ⟨by simp, hS.2⟩

end Go.Proofs.YtekapipfaahhcaaGreatDoor

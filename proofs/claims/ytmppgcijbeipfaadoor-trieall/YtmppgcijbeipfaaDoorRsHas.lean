import Derived.Test.YtmppgcijbeipfaaDoorRsStamp
namespace Go.Proofs.YtmppgcijbeipfaaDoor
open Go.RowKit

/-- Is there a node of that level with that stamp on the way? -/
def hasS (L : Es) (σ : Nat → Nat → Int) (l q : Nat) (s : Int) : Prop := (∃ e ∈ L, rfPre e.1 l = q) ∧ σ l q = s

def hasP (w : World) (L : Es) (σ : Nat → Nat → Int) (l q : Nat) (s : Int) (e : Ending) (w' : World) : Prop := ∃ d : Bool, e = .returned (.bool d) ∧ (d = true ↔ hasS L σ l q s) ∧ w' = w

set_option maxRecDepth 4000 in
set_option maxHeartbeats 2000000 in
theorem has_rs (σ : Nat → Nat → Int) (b id : Nat) (hid : id < 4294967296) (l : Nat) (hl8 : l < 8) (s : Int) (L : Es) (hk : ∀ e ∈ L, e.1 < 4294967296) (hl : L.length ≤ 5000000000) (w : World) (h : RsAt w b L σ) : Calls Tryd.prog 44 #[.pointer (some ⟨b, 0, none⟩), .int .u32 (id : Int), .int .i64 (l : Int), .int .i64 s] w (hasP w L σ l (rfPre id l) s) := by
  obtain ⟨ai, av, az, ci, cv, cs, c0, c1, c2, hc⟩ := h.rf.cells
  have hst : Hid (∀ gs, az = some ⟨gs, 0, none⟩ → ∀ i (hi : i < L.length), w.cell? ⟨gs, i * 8 + l, none⟩ = some (.int .i64 (σ l (rfPre L[i].1 l)))) := fun gs e i hi => h.stamps (by rw [← e]; exact c2) i hi l hl8
  have p2 : Hid (∀ X, _) := fun X => prefix_rf id l hid (Nat.le_of_lt hl8) X
  have hl0 : (0 : Int) ≤ (l : Int) := Int.natCast_nonneg _
  have hl8' : (l : Int) < 8 := Int.ofNat_lt.2 hl8
  clear h hid
  go_enter Tryd.func44, Tryd.ntmps44
  go_wp2
  go_loopw [9] (fun iv X => ∃ i : Nat, Hid (i ≤ L.length ∧ ∀ j (hj : j < L.length), j < i → rfPre L[j].1 l ≠ rfPre id l) ∧ iv = .int .i64 (i : Int) ∧ X = w) (fun iv _ => L.length - (intOf iv).toNat)
  case atStart => exact ⟨0, ⟨Nat.zero_le _, fun j hj h => by omega⟩, rfl, rfl⟩
  case round =>
    obtain ⟨i, hi, rfl, hX⟩ := hrel
    subst hX
    by_cases hlt : i < L.length
    · have hlt' : (i : Int) < (L.length : Int) := Int.ofNat_lt.2 hlt
      have hi0 : (0 : Int) ≤ (i : Int) := Int.natCast_nonneg _
      obtain ⟨gi, gv, gs, rfl, rfl, rfl, hgi, -, -, hcc, -⟩ := hc (Nat.lt_of_le_of_lt (Nat.zero_le _) hlt)
      have a0 := (hcc i hlt).1
      have a2 := hst.out gs rfl i hlt
      have hkey := hk _ (List.getElem_mem hlt)
      have hY : Hid (rfPre L[i].1 l = rfPre id l → ((σ l (rfPre L[i].1 l) == s) = true ↔ hasS L σ l (rfPre id l) s)) := fun he => by
        unfold hasS
        rw [he, beq_iff_eq]
        exact ⟨fun h => ⟨⟨_, List.getElem_mem hlt, he⟩, h⟩, fun h => h.2⟩
      have hN : Hid (¬ rfPre L[i].1 l = rfPre id l → i + 1 ≤ L.length ∧ ∀ j (hj : j < L.length), j < i + 1 → rfPre L[j].1 l ≠ rfPre id l) := fun he => ⟨hlt, fun j hj hlt2 => by
        by_cases e : j = i
        · subst e; exact he
        · exact hi.out.2 j hj (by omega)⟩
      have p1 : Hid (∀ X, _) := fun X => prefix_rf L[i].1 l hkey (Nat.le_of_lt hl8) X
      have hms : Hid (i < L.length ∧ L.length ≤ 5000000000) := ⟨hlt, hl⟩
      generalize σ l (rfPre L[i].1 l) = sv at *
      generalize L[i].1 = key at *
      clear hcc hc hst hkey hk hi hlt
      by_cases he : rfPre key l = rfPre id l
      · have hY2 : Hid ((sv == s) = true ↔ hasS L σ l (rfPre id l) s) := hY.out he
        rw [he] at p1
        clear he hY hN
        go_wp2_with (go_at_call 43; fail)
        refine (p1.out _).mono ?_
        rintro e w1 ⟨rfl, rfl⟩
        clear p1
        go_wp2_with (go_at_call 43; fail)
        refine (p2.out _).mono ?_
        rintro e w1 ⟨rfl, rfl⟩
        clear p2
        go_wp2
        go_ret
        exact ⟨_, rfl, hY2.out, rfl⟩
      · have he1 : ¬ ((rfPre key l : Nat) : Int) = ((rfPre id l : Nat) : Int) := fun h => he (Int.ofNat_inj.1 h)
        have hN2 : Hid (_) := hN.out he
        generalize hq1 : rfPre key l = q1 at *
        clear he hY hN hq1
        go_wp2_with (go_at_call 43; fail)
        refine (p1.out _).mono ?_
        rintro e w1 ⟨rfl, rfl⟩
        clear p1
        go_wp2_with (go_at_call 43; fail)
        refine (p2.out _).mono ?_
        rintro e w1 ⟨rfl, rfl⟩
        clear p2
        obtain ⟨hn5, hn4⟩ := hms.out
        go_wp2
        exact ⟨⟨i + 1, hN2, by go_num, by first | rfl | trivial⟩, by simp [intOf]; omega⟩
    · have hlt' : ¬ (i : Int) < (L.length : Int) := fun h => hlt (Int.ofNat_lt.1 h)
      have hno : Hid (false = true ↔ hasS L σ l (rfPre id l) s) := ⟨(fun h => by cases h), fun h => by
        obtain ⟨⟨e, he, hp⟩, -⟩ := h
        obtain ⟨j, hj, rfl⟩ := List.mem_iff_getElem.1 he
        exact absurd hp (hi.out.2 j hj (by omega))⟩
      clear hc hst hi
      go_wp2
      go_ret
      exact ⟨false, rfl, hno.out, rfl⟩

end Go.Proofs.YtmppgcijbeipfaaDoor

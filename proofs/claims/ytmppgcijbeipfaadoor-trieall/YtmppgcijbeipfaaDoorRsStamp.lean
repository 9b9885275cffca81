import Derived.Test.YtmppgcijbeipfaaDoorRfStamp
namespace Go.Proofs.YtmppgcijbeipfaaDoor
open Go.RowKit

/-- The stamps of a map's keys, by level and first bits. -/
def SG (σ : Nat → Nat → Int) (N : Es) (st : List Int) : Prop := ∀ i (h : i < N.length) l, l < 8 → st[i * 8 + l]? = some (σ l (rfPre N[i].1 l))
/-- .. of all keys but one. -/
def SZ (σ : Nat → Nat → Int) (id : Nat) (N : Es) (st : List Int) : Prop := ∀ i (h : i < N.length) l, l < 8 → N[i].1 ≠ id → st[i * 8 + l]? = some (σ l (rfPre N[i].1 l))
/-- The way to a key is stamped. -/
def updS (σ : Nat → Nat → Int) (id : Nat) (s : Int) : Nat → Nat → Int := fun l p => if p = rfPre id l then s else σ l p
def RsAt (W : World) (b : Nat) (L : Es) (σ : Nat → Nat → Int) : Prop := ∃ (vi vv vs : Value) (st : List Int), W.heap[b]? = some (.cells #[vi, vv, vs] 77 (0, 0)) ∧ W.ownsRow 0 27 1 vi L.length (idV L) ∧ W.ownsRow 0 29 2 vv L.length (vaV L) ∧ W.ownsRow 0 87 8 vs L.length (stV st) ∧ st.length = L.length * 8 ∧ Rises L ∧ SG σ L st
theorem RsAt.rf {W : World} {b : Nat} {L : Es} {σ : Nat → Nat → Int} (h : RsAt W b L σ) : RfAt W b L := by
  obtain ⟨vi, vv, vs, st, h0, h1, h2, h3, h4, h5, -⟩ := h
  exact ⟨vi, vv, vs, st, h0, h1, h2, h3, h4, h5⟩
theorem RsAt.lt {W : World} {b : Nat} {L : Es} {σ : Nat → Nat → Int} (h : RsAt W b L σ) : b < W.heap.size := h.rf.lt
theorem RsAt.later {W W' : World} {b : Nat} {L : Es} {σ : Nat → Nat → Int} (h : RsAt W b L σ) (hB : Below W.heap.size W W') : RsAt W' b L σ := by
  have hb := h.lt
  obtain ⟨vi, vv, vs, st, h0, h1, h2, h3, h4⟩ := h
  exact ⟨vi, vv, vs, st, (hB.block _ hb).trans h0, own_laterB h1 hB, own_laterB h2 hB, own_laterB h3 hB, h4⟩
/-- The stamps in cells. -/
theorem RsAt.stamps {W : World} {b : Nat} {L : Es} {σ : Nat → Nat → Int} (h : RsAt W b L σ) {gs cs : Nat} (hc : W.cell? ⟨b, 2, none⟩ = some (.slice (some ⟨gs, 0, none⟩) L.length cs)) : ∀ i (hi : i < L.length) l, l < 8 → W.cell? ⟨gs, i * 8 + l, none⟩ = some (.int .i64 (σ l (rfPre L[i].1 l))) := by
  obtain ⟨vi, vv, vs, st, h0, h1, h2, h3, h4, h5, h6⟩ := h
  intro i hi l hl
  rw [cell_of_row _ _ 2 _ _ _ h0] at hc
  obtain rfl : vs = .slice (some ⟨gs, 0, none⟩) L.length cs := by simpa using hc
  rw [h3.cellAt (i * 8 + l) (by omega)]
  unfold stV
  rw [List.getElem?_map, h6 i hi l hl]
  rfl
/-- Where stamped stands: ahead of entry i, level l all is stamped. -/
def SI (σ : Nat → Nat → Int) (id : Nat) (s : Int) (N : Es) (i l : Nat) (st : List Int) : Prop := ∀ i' (h : i' < N.length) l', l' < 8 → ((i' < i ∨ (i' = i ∧ l' < l)) → st[i' * 8 + l']? = some (updS σ id s l' (rfPre N[i'].1 l'))) ∧ (¬ (i' < i ∨ (i' = i ∧ l' < l)) → N[i'].1 ≠ id → st[i' * 8 + l']? = some (σ l' (rfPre N[i'].1 l')))
theorem SI.start {σ : Nat → Nat → Int} {id : Nat} {s : Int} {N : Es} {st : List Int} (h : SZ σ id N st) : SI σ id s N 0 0 st := fun i' h' l' hl' => ⟨fun c => by omega, fun _ hne => h i' h' l' hl' hne⟩
theorem SI.next {σ : Nat → Nat → Int} {id : Nat} {s : Int} {N : Es} {st : List Int} {i : Nat} (h : SI σ id s N i 8 st) : SI σ id s N (i + 1) 0 st := fun i' h' l' hl' => ⟨fun c => (h i' h' l' hl').1 (by omega), fun c => (h i' h' l' hl').2 (by omega)⟩
theorem SI.end {σ : Nat → Nat → Int} {id : Nat} {s : Int} {N : Es} {st : List Int} (h : SI σ id s N N.length 0 st) : SG (updS σ id s) N st := fun i hi l hl => (h i hi l hl).1 (.inl hi)
theorem SI.hit {σ : Nat → Nat → Int} {id : Nat} {s : Int} {N : Es} {st : List Int} {i l : Nat} (h : SI σ id s N i l st) (hi : i < N.length) (hl : l < 8) (hlen : st.length = N.length * 8) (he : rfPre N[i].1 l = rfPre id l) : SI σ id s N i (l + 1) (st.set (i * 8 + l) s) := by
  intro i' h' l' hl'
  by_cases hx : i' * 8 + l' = i * 8 + l
  · obtain ⟨rfl, rfl⟩ : i' = i ∧ l' = l := by omega
    refine ⟨fun _ => ?_, fun c => by omega⟩
    rw [List.getElem?_set_self (by omega)]
    unfold updS
    rw [if_pos he]
  · rw [List.getElem?_set_ne (Ne.symm hx)]
    exact ⟨fun c => (h i' h' l' hl').1 (by omega), fun c => (h i' h' l' hl').2 (by omega)⟩
theorem SI.miss {σ : Nat → Nat → Int} {id : Nat} {s : Int} {N : Es} {st : List Int} {i l : Nat} (h : SI σ id s N i l st) (hi : i < N.length) (hl : l < 8) (he : ¬ rfPre N[i].1 l = rfPre id l) : SI σ id s N i (l + 1) st := by
  intro i' h' l' hl'
  by_cases hx : i' = i ∧ l' = l
  · obtain ⟨rfl, rfl⟩ := hx
    refine ⟨fun _ => ?_, fun c => by omega⟩
    rw [(h i' h' l' hl').2 (by omega) (fun e => he (by rw [e]))]
    unfold updS
    rw [if_neg he]
  · exact ⟨fun c => (h i' h' l' hl').1 (by omega), fun c => (h i' h' l' hl').2 (by omega)⟩

set_option maxRecDepth 4000 in
set_option maxHeartbeats 4000000 in
theorem stamped_rs (σ : Nat → Nat → Int) (nb id : Nat) (hid : id < 4294967296) (s : Int) (vi vv vs : Value) (N : Es) (hk : ∀ e ∈ N, e.1 < 4294967296) (hN : N.length ≤ 6000000000) (st : List Int) (w : World) (h : RfR w nb vi vv vs N N N.length st) (hZ : SZ σ id N st) : Calls Tryd.prog 36 #[.pointer (some ⟨nb, 0, none⟩), .int .u32 (id : Int), .int .i64 s] w fun e w' => e = .returned (.tuple #[]) ∧ (∃ st', RfR w' nb vi vv vs N N N.length st' ∧ SG (updS σ id s) N st') ∧ Below nb w w' := by
  have hnb := (Array.getElem?_eq_some_iff.1 h.row).1
  go_enter Tryd.func36, Tryd.ntmps36
  go_wp2
  go_loopw [6] (fun iv X => ∃ i : Nat, Hid (i ≤ N.length) ∧ iv = .int .i64 (i : Int) ∧ (∃ st', RfR X nb vi vv vs N N N.length st' ∧ Hid (SI σ id s N i 0 st')) ∧ Below nb w X) (fun iv _ => N.length - (intOf iv).toNat)
  case atStart => exact ⟨0, Nat.zero_le _, rfl, ⟨st, h, SI.start hZ⟩, (Below.refl _ _).mono (Nat.le_of_lt hnb)⟩
  case round =>
    obtain ⟨i, hi, rfl, ⟨st1, h1, hI1⟩, hB1⟩ := hrel
    obtain ⟨ai, ci, rfl, qi⟩ := own_sl h1.ids
    have c0 : wr.cell? ⟨nb, 0, none⟩ = some (.slice ai N.length ci) := cell_of_row _ _ 0 _ _ _ h1.row
    by_cases hlt : i < N.length
    · have hlt' : (i : Int) < (N.length : Int) := Int.ofNat_lt.2 hlt
      have hi0 : (0 : Int) ≤ (i : Int) := Int.natCast_nonneg _
      have hpos : 0 < N.length := Nat.lt_of_le_of_lt (Nat.zero_le _) hlt
      have hkey := hk _ (List.getElem_mem hlt)
      go_wp2
      go_loopw [7] (fun iv X => ∃ l : Nat, l ≤ 8 ∧ iv = .int .i64 (l : Int) ∧ (∃ st', RfR X nb (.slice ai N.length ci) vv vs N N N.length st' ∧ Hid (SI σ id s N i l st')) ∧ Below nb w X) (fun iv _ => 8 - (intOf iv).toNat)
      case atStart => exact ⟨0, Nat.zero_le _, rfl, ⟨st1, h1, hI1⟩, hB1⟩
      case round =>
        clear c0 h1 hB1
        obtain ⟨l, hl, rfl, ⟨st2, h2, hI2⟩, hB2⟩ := hrel
        by_cases hl8 : l < 8
        · have hl8' : (l : Int) < 8 := Int.ofNat_lt.2 hl8
          have hl0 : (0 : Int) ≤ (l : Int) := Int.natCast_nonneg _
          obtain ⟨gi, rfl, hgi⟩ := qi hpos
          obtain ⟨az, cz, rfl, qs⟩ := own_sl h2.sts
          obtain ⟨gs, rfl, hgs⟩ := qs hpos
          have c0 : wr.cell? ⟨nb, 0, none⟩ = some (.slice (some ⟨gi, 0, none⟩) N.length ci) := cell_of_row _ _ 0 _ _ _ h2.row
          have c2 : wr.cell? ⟨nb, 2, none⟩ = some (.slice (some ⟨gs, 0, none⟩) N.length cz) := cell_of_row _ _ 2 _ _ _ h2.row
          have a0 : wr.cell? ⟨gi, i, none⟩ = some (.int .u32 (N[i].1 : Int)) := by
            rw [h2.ids.cellAt i (by omega)]
            unfold idV
            rw [List.getElem?_map, List.getElem?_eq_getElem hlt]
            rfl
          have hj8 : i * 8 + l < N.length * 8 := by omega
          obtain ⟨o, ho⟩ : ∃ o, wr.cell? ⟨gs, i * 8 + l, none⟩ = some (.int .i64 o) := by
            refine ⟨st2[i * 8 + l]'(by rw [h2.len]; exact hj8), ?_⟩
            rw [h2.sts.cellAt (i * 8 + l) (by omega)]
            unfold stV
            rw [List.getElem?_map, List.getElem?_eq_getElem (by rw [h2.len]; exact hj8)]
            rfl
          obtain ⟨h3, hB3, hf3⟩ := h2.stamp (j := i * 8 + l) s
          have hB4 : Below nb w (wr.setCell ⟨gs, i * 8 + l, none⟩ (.int .i64 s)) := hB2.trans hB3
          clear hB3
          have hkE : Hid (rfPre N[i].1 l = rfPre id l → SI σ id s N i (l + 1) (st2.set (i * 8 + l) s)) := fun he => hI2.out.hit hlt hl8 h2.len he
          have hkN : Hid (¬ rfPre N[i].1 l = rfPre id l → SI σ id s N i (l + 1) st2) := fun he => hI2.out.miss hlt hl8 he
          generalize N[i].1 = key at *
          have p1 : Hid (∀ X, _) := fun X => prefix_rf key l hkey (Nat.le_of_lt hl8) X
          have p2 : Hid (∀ X, _) := fun X => prefix_rf id l hid (Nat.le_of_lt hl8) X
          have hidn : Hid (i < N.length) := hlt
          clear hk hid hkey
          by_cases he : rfPre key l = rfPre id l
          · have hI3 : Hid (SI σ id s N i (l + 1) (st2.set (i * 8 + l) s)) := hkE.out he
            rw [he] at p1
            clear he hkE hkN
            go_wp2_with (go_at_call 43; fail)
            refine (p1.out _).mono ?_
            rintro e w1 ⟨rfl, rfl⟩
            clear p1
            go_wp2_with (go_at_call 43; fail)
            refine (p2.out _).mono ?_
            rintro e w1 ⟨rfl, rfl⟩
            clear p2
            go_wp2
            exact ⟨⟨l + 1, hl8, by go_num, ⟨_, h3, hI3⟩, hB4⟩, by simp [intOf]; omega⟩
          · have he1 : ¬ ((rfPre key l : Nat) : Int) = ((rfPre id l : Nat) : Int) := fun h => he (Int.ofNat_inj.1 h)
            have hI3 : Hid (SI σ id s N i (l + 1) st2) := hkN.out he
            clear hkE hkN
            generalize rfPre key l = q1 at *
            generalize rfPre id l = q2 at *
            clear he h3 hB4 hf3
            go_wp2_with (go_at_call 43; fail)
            refine (p1.out _).mono ?_
            rintro e w1 ⟨rfl, rfl⟩
            clear p1
            go_wp2_with (go_at_call 43; fail)
            refine (p2.out _).mono ?_
            rintro e w1 ⟨rfl, rfl⟩
            clear p2
            go_wp2
            exact ⟨⟨l + 1, hl8, by go_num, ⟨_, h2, hI3⟩, hB2⟩, by simp [intOf]; omega⟩
        · have hl8' : ¬ (l : Int) < 8 := fun h => hl8 (Int.ofNat_lt.1 h)
          have hidn : Hid (i < N.length) := hlt
          have hl9 : l = 8 := by omega
          have hI4 : Hid (SI σ id s N (i + 1) 0 st2) := by have := hI2.out; rw [hl9] at this; exact this.next
          clear hk hid hkey hl9
          go_wp2
          exact ⟨⟨i + 1, hidn.out, by go_num, ⟨_, h2, hI4⟩, hB2⟩, by simp [intOf]; omega⟩
    · have hlt' : ¬ (i : Int) < (N.length : Int) := fun h => hlt (Int.ofNat_lt.1 h)
      have hie : i = N.length := by have := hi.out; omega
      have hI5 : Hid (SG (updS σ id s) N st1) := by have := hI1.out; rw [hie] at this; exact this.end
      clear hie
      go_wp2
      go_end0
      exact ⟨rfl, ⟨st1, h1, hI5.out⟩, hB1⟩

end Go.Proofs.YtmppgcijbeipfaaDoor

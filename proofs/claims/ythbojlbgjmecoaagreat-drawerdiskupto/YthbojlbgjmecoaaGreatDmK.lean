import Derived.Test.YthbojlbgjmecoaaGreatDmJ
/- alter; Sync, Trim, Remove. -/
namespace Go.Proofs.YthbojlbgjmecoaaGreat.DJ
open Go.RowKit

theorem changes_chg (d : Dk) (nm : List Nat) (g : List Fl → List Fl) : changes d nm g = chg d nm 1 (if get d.fs nm = none then 193 else 0) (fun u => if u = 1 then g d.fs else d.fs) := by
  unfold changes chg
  by_cases h1 : (first d nm).1 ≠ 0
  · rw [if_pos h1, if_pos h1]
  · rw [if_neg h1, if_neg h1]
    by_cases h2 : get d.fs nm = none
    · rw [if_pos h2, if_pos h2]; rfl
    · rw [if_neg h2, if_neg h2]
      simp only [ne_eq, not_true_eq_false, if_false, if_true]
      unfold pays paidU paidD
      cases hu : (first d nm).2.units with
      | none => simp
      | some u =>
        simp only
        by_cases h3 : 1 ≤ u
        · have hm : min 1 u = 1 := by omega
          simp [h3, hm]
        · obtain rfl : u = 0 := by omega
          rw [if_neg h3]
          simp [falls, first_fs]

set_option maxRecDepth 4000 in
set_option maxHeartbeats 1000000 in
theorem alter_any {lo db : Nat} {S : Nat → Prop} {d : Dk} {nm : List Nat} (hl : nm.length ≤ 4294967296) (hb : ∀ x ∈ nm, x < 256) (g : List Fl → List Fl) (n3 : FuncId) (hn3 : ∀ (x : Array Value) (w : World), (callFunc n3 x).run Tryz.prog w = .ok (.enter n3 x) w) (c3 : Array Value) (w : World) (h : DiskAt w lo S db d)
    (hA : ∀ (X : World) (d1 : Dk) (f : Fl), GrS S w X → d1.fs = d.fs → f ∈ d.fs → f.nm = nm → Alters n3 c3 lo db S d1 f (g d.fs) X) :
    Calls Tryz.prog 71 #[.pointer (some ⟨db, 0, none⟩), .string (strB nm), .func (.func n3) #[] c3] w fun e w' => e = .returned (.int .i64 ((changes d nm g).1 : Nat)) ∧ ∃ S', DiskAt w' lo S' db (changes d nm g).2 ∧ Dv S w S' w' := by
  have hmf : ∀ (fn : Fn) (first cap : Array Value) (w : World), (Instr.makeFunc fn first cap).run Tryz.prog w = .ok (.func fn first cap) w := fun _ _ _ _ => rfl
  have hSl : ∀ k, S k → k < w.heap.size := fun k hk => by
    obtain ⟨mb, D, fb, vv, h⟩ := h
    exact h.hi k hk
  obtain ⟨W3, hW3⟩ : ∃ W3, ((w.alloc (.cells #[.pointer (some ⟨db, 0, none⟩)] 27)).alloc (.cells #[.string (strB nm)] 9)).alloc (.cells #[.func (.func n3) #[] c3] 115) = W3 := ⟨_, rfl⟩
  have hw1 : Below w.heap.size w W3 := by
    rw [← hW3]
    exact (((Below.refl _ _).alloc (Nat.le_refl _) _).alloc (by simp) _).alloc (by simp; omega) _
  have b0 : W3.heap[w.heap.size]? = some (.cells #[.pointer (some ⟨db, 0, none⟩)] 27 (0, 0)) := by
    rw [← hW3]
    exact (Below.heap_alloc _ _ _ (by simp; omega)).trans ((Below.heap_alloc _ _ _ (by simp)).trans (heap_new w _))
  have b1 : W3.heap[w.heap.size + 1]? = some (.cells #[.string (strB nm)] 9 (0, 0)) := by
    rw [← hW3]
    have := heap_new (w.alloc (.cells #[.pointer (some ⟨db, 0, none⟩)] 27)) (.cells #[.string (strB nm)] 9)
    rw [World.size_alloc] at this
    exact (Below.heap_alloc _ _ _ (by simp)).trans this
  have b2 : W3.heap[w.heap.size + 1 + 1]? = some (.cells #[.func (.func n3) #[] c3] 115 (0, 0)) := by
    rw [← hW3]
    have := heap_new ((w.alloc (.cells #[.pointer (some ⟨db, 0, none⟩)] 27)).alloc (.cells #[.string (strB nm)] 9)) (.cells #[.func (.func n3) #[] c3] 115)
    rw [World.size_alloc, World.size_alloc] at this
    exact this
  have hlt : w.heap.size + 1 + 1 < W3.heap.size := (Array.getElem?_eq_some_iff.1 b2).1
  have box : ∀ X, GrS S W3 X → X.cell? ⟨w.heap.size, 0, none⟩ = some (.pointer (some ⟨db, 0, none⟩)) ∧ X.cell? ⟨w.heap.size + 1, 0, none⟩ = some (.string (strB nm)) ∧ X.cell? ⟨w.heap.size + 1 + 1, 0, none⟩ = some (.func (.func n3) #[] c3) := fun X hX =>
    ⟨cell_of_row _ _ 0 _ _ _ ((hX.block _ (by omega) (fun e => by have := hSl _ e; omega)).trans b0), cell_of_row _ _ 0 _ _ _ ((hX.block _ (by omega) (fun e => by have := hSl _ e; omega)).trans b1), cell_of_row _ _ 0 _ _ _ ((hX.block _ (by omega) (fun e => by have := hSl _ e; omega)).trans b2)⟩
  have hD3 := h.later hw1
  have hch := change_any hb (cost := 1) (B := if get d.fs nm = none then 193 else 0) (by split <;> decide) (by decide) (F := fun u => if u = 1 then g d.fs else d.fs) 89 90 en150 en151 #[.pointer (some ⟨w.heap.size, 0, none⟩), .pointer (some ⟨w.heap.size + 1, 0, none⟩)] #[.pointer (some ⟨w.heap.size + 1 + 1, 0, none⟩), .pointer (some ⟨w.heap.size, 0, none⟩), .pointer (some ⟨w.heap.size + 1, 0, none⟩)] W3 hD3
    (fun X hX hD => by
      have := alter1_any hl hb X _ _ (box X hX).1 (box X hX).2.1 hD
      rw [struck_fs] at this
      exact this)
    (fun hB _ X u hu hX hD => by
      have hfs : (paidD (struck d) 1).fs = d.fs := by rw [paidD_fs, struck_fs]
      obtain ⟨f, hf⟩ : ∃ f, get d.fs nm = some f := by
        cases hg : get d.fs nm with
        | none => rw [if_pos hg] at hB; cases hB
        | some f => exact ⟨f, rfl⟩
      obtain ⟨f1, rfl⟩ := get_some hf
      have := alter2_any (d := paidD (struck d) 1) (f := f) (hfs ▸ f1) (fs' := g d.fs) n3 hn3 c3 u hu X _ _ _ (box X hX).2.2 (box X hX).1 (box X hX).2.1 hD (fun Y hY => hA Y _ f (GrS.trans (.of_below hw1) (GrS.trans hX (.of_below hY))) hfs f1 rfl)
      rw [hfs] at this
      exact this)
  rw [← changes_chg] at hch
  obtain ⟨r, hr⟩ : ∃ r, changes d nm g = r := ⟨_, rfl⟩
  rw [hr] at hch ⊢
  have B3 : Hid (Below w.heap.size w W3) := ⟨hw1⟩
  obtain ⟨k0, k1, k2⟩ := box W3 (.refl _ _)
  clear hA h hD3 box b0 b1 b2 hlt hw1 hr hSl
  generalize strB nm = s at *
  go_enter Tryz.func71, Tryz.ntmps71
  go_wp2_with (go_at_call 66; refine hch.mono ?_; rintro e w9 ⟨rfl, S', h9, hv9⟩)
  go_ret
  exact ⟨rfl, S', h9, Dv.trans (.below B3.out) hv9⟩

theorem en121 (x : Array Value) (w : World) : (callFunc 72 x).run Tryz.prog w = .ok (.enter 72 x) w := by
  kernel_rfl
theorem en132 (x : Array Value) (w : World) : (callFunc 74 x).run Tryz.prog w = .ok (.enter 74 x) w := by
  kernel_rfl
theorem en125 (x : Array Value) (w : World) : (callFunc 76 x).run Tryz.prog w = .ok (.enter 76 x) w := by
  kernel_rfl

set_option maxRecDepth 4000 in
set_option maxHeartbeats 1000000 in
theorem sync_any {lo db : Nat} {S : Nat → Prop} {d : Dk} {nm : List Nat} (hl : nm.length ≤ 4294967296) (hb : ∀ x ∈ nm, x < 256) (w : World) (h : DiskAt w lo S db d) :
    Calls Tryz.prog 17 #[.pointer (some ⟨db, 0, none⟩), .string (strB nm)] w fun e w' => e = .returned (.int .i64 ((sync d nm).1 : Nat)) ∧ ∃ S', DiskAt w' lo S' db (sync d nm).2 ∧ Dv S w S' w' := by
  have ha := alter_any hl hb (fun fs => upd fs nm syncF) 72 en121 #[] w h (fun X d1 f hX hfs hf hn => by
    intro mb D fb vv hL
    have hf1 : f ∈ d1.fs := hfs ▸ hf
    refine (sync1_any X (hL.fil f hf1)).mono ?_
    rintro e X' ⟨rfl, hF, hg⟩
    refine ⟨rfl, ?_⟩
    obtain ⟨S', hL', hv⟩ := hL.turn (d' := { d1 with fs := upd d.fs nm syncF }) hf1 (hg.mono (fun k _ e => .inl e)) (f' := syncF f) rfl hF (fun k hk => .inl hk) (by rw [hfs, ← hn, upd_same (hfs ▸ hL.ok.srt) hf]) rfl rfl rfl rfl (hL.ok.siz f hf1) (Nat.le_refl _) (hL.ok.byt f hf1)
    exact ⟨S', ⟨mb, D, fb, _, hL'⟩, hv⟩)
  obtain ⟨r, hr⟩ : ∃ r, sync d nm = r := ⟨_, rfl⟩
  unfold sync at hr ⊢
  rw [hr] at ha ⊢
  clear h hr
  generalize strB nm = s at *
  go_enter Tryz.func17, Tryz.ntmps17
  go_wp2_with (go_at_call 71; refine ha.mono ?_; rintro e w9 ⟨rfl, S', h9, hv9⟩)
  go_ret
  exact ⟨rfl, S', h9, hv9⟩

set_option maxRecDepth 4000 in
set_option maxHeartbeats 1000000 in
theorem trim_any {lo db : Nat} {S : Nat → Prop} {d : Dk} {nm : List Nat} {n : Int} (hn1 : n ≤ 9223372036854775807) (hn0 : -9223372036854775808 ≤ n) (hl : nm.length ≤ 4294967296) (hb : ∀ x ∈ nm, x < 256) (w : World) (hlo : lo ≤ w.heap.size) (h : DiskAt w lo S db d) :
    Calls Tryz.prog 19 #[.pointer (some ⟨db, 0, none⟩), .string (strB nm), .int .i64 n] w fun e w' => e = .returned (.int .i64 ((trim d nm n).1 : Nat)) ∧ ∃ S', DiskAt w' lo S' db (trim d nm n).2 ∧ Dv S w S' w' := by
  have hmf : ∀ (fn : Fn) (first cap : Array Value) (w : World), (Instr.makeFunc fn first cap).run Tryz.prog w = .ok (.func fn first cap) w := fun _ _ _ _ => rfl
  obtain ⟨W1, hW1⟩ : ∃ W1, w.alloc (.cells #[.int .i64 n] 3) = W1 := ⟨_, rfl⟩
  have hw1 : Below w.heap.size w W1 := by rw [← hW1]; exact (Below.refl _ _).alloc (Nat.le_refl _) _
  have b0 : W1.heap[w.heap.size]? = some (.cells #[.int .i64 n] 3 (0, 0)) := by rw [← hW1]; exact heap_new w _
  have hSl : ∀ k, S k → k < w.heap.size := fun k hk => by
    obtain ⟨mb, D, fb, vv, h⟩ := h
    exact h.hi k hk
  have ha := alter_any hl hb (fun fs => upd fs nm (trimF n.toNat)) 74 en132 #[.pointer (some ⟨w.heap.size, 0, none⟩)] W1 (h.later hw1) (fun X d1 f hX hfs hf hn => by
    intro mb D fb vv hL
    have hf1 : f ∈ d1.fs := hfs ▸ hf
    have hc : X.cell? ⟨w.heap.size, 0, none⟩ = some (.int .i64 n) := cell_of_row _ _ 0 _ _ _ ((hX.block _ (Array.getElem?_eq_some_iff.1 b0).1 (fun e => by have := hSl _ e; omega)).trans b0)
    refine (trim1_any hn1 hn0 (hL.ok.byt f hf1) (hL.ok.siz f hf1) (hL.ok.sur f hf1) X (Nat.le_trans hlo (Nat.le_trans hw1.size hX.size)) _ hc (hL.fil f hf1)).mono ?_
    rintro e X' ⟨rfl, v', hF, hg, hv⟩
    refine ⟨rfl, ?_⟩
    obtain ⟨S', hL', hv⟩ := hL.turn (d' := { d1 with fs := upd d.fs nm (trimF n.toNat) }) hf1 (hg.mono (fun k _ e => .inl e)) (f' := trimF n.toNat f) rfl hF (fun k hk => hv.elim (fun e => .inl (e ▸ hk)) (fun e => .inr (e k hk))) (by rw [hfs, ← hn, upd_same (hfs ▸ hL.ok.srt) hf]) rfl rfl rfl rfl (Nat.le_trans (List.length_take_le' _ _) (hL.ok.siz f hf1)) (Nat.min_le_right _ _) (fun x hx => hL.ok.byt f hf1 x (List.mem_of_mem_take hx))
    exact ⟨S', ⟨mb, D, fb, _, hL'⟩, hv⟩)
  obtain ⟨r, hr⟩ : ∃ r, trim d nm n = r := ⟨_, rfl⟩
  unfold trim at hr ⊢
  rw [hr] at ha ⊢
  have k0 : W1.cell? ⟨w.heap.size, 0, none⟩ = some (.int .i64 n) := cell_of_row _ _ 0 _ _ _ b0
  have B1 : Hid (Below w.heap.size w W1) := ⟨hw1⟩
  clear h hr hw1 b0
  generalize strB nm = s at *
  go_enter Tryz.func19, Tryz.ntmps19
  go_wp2_with (go_at_call 71; refine ha.mono ?_; rintro e w9 ⟨rfl, S', h9, hv9⟩)
  go_ret
  exact ⟨rfl, S', h9, Dv.trans (.below B1.out) hv9⟩
end Go.Proofs.YthbojlbgjmecoaaGreat.DJ

import Derived.Test.YtnmcniibcjjflaaDoorJoin47
import Derived.Test.YtnmcniibcjjflaaDoorTurnPlaysWalk
import Derived.Test.YtnmcniibcjjflaaDoorTurnSumsWalk2
namespace Go.Proofs.YtnmcniibcjjflaaDoor
open Go.RowKit Go.Shelf

/-- What holds while one step is looked at: the step's kind and first operand, the last answer, the table. -/
abbrev SafeS (W : World) (H L : Nat) (kk a0 a1 lk ln : Int) (X : World) : Prop := L < H ∧ X.cell? ⟨H, 0, none⟩ = some (.int .i64 kk) ∧ X.cell? ⟨H, 1, none⟩ = some (.int .i64 a0) ∧ X.cell? ⟨H, 2, none⟩ = some (.int .i64 a1) ∧ Box X L (.int .i64 lk) (.int .i64 ln) ∧ Kinds X ∧ Below W.heap.size W X
theorem SafeS.later {W : World} {H L : Nat} {kk a0 a1 lk ln : Int} {X Y : World} (h : SafeS W H L kk a0 a1 lk ln X) (hb : Below X.heap.size X Y) : SafeS W H L kk a0 a1 lk ln Y := by
  obtain ⟨hl, c0, c1, c2, hL, hK, hB⟩ := h
  have hH := World.block_lt_of_cell? _ _ c0
  have e : ∀ j, Y.cell? ⟨H, j, none⟩ = X.cell? ⟨H, j, none⟩ := fun j => hb.cell (p := ⟨H, j, none⟩) hH
  exact ⟨hl, (e _).trans c0, (e _).trans c1, (e _).trans c2, hL.later hb, hK.later hb, below_step hB hb⟩
theorem safe_new {W wr : World} {L : Nat} {lk ln : Int} (hK : Kinds wr) (hL : Box wr L (.int .i64 lk) (.int .i64 ln)) (hB : Below W.heap.size W wr) (kk a0 a1 k1 n1 k2 n2 num den mode : Int) (bv lv : Value) (t : TypeId) : SafeS W wr.heap.size L kk a0 a1 lk ln (wr.alloc (.cells (opl kk a0 a1 k1 n1 k2 n2 num den mode bv lv) t)) := by
  have hb := (Below.refl wr.heap.size wr).alloc (Nat.le_refl _) (.cells (opl kk a0 a1 k1 n1 k2 n2 num den mode bv lv) t)
  refine ⟨hL.lt, ?_, ?_, ?_, hL.later hb, hK.later hb, below_step hB hb⟩ <;> simp
/-- .. and the answer that is looked at. -/
abbrev SafeV (W : World) (H L V : Nat) (kk a0 a1 lk ln : Int) (r : Int × Int) (X : World) : Prop := X.cell? ⟨V, 0, none⟩ = some (.int .i64 r.1) ∧ X.cell? ⟨V, 1, none⟩ = some (.int .i64 r.2) ∧ X.cell? ⟨H, 0, none⟩ = some (.int .i64 kk) ∧ X.cell? ⟨H, 1, none⟩ = some (.int .i64 a0) ∧ X.cell? ⟨H, 2, none⟩ = some (.int .i64 a1) ∧ Box X L (.int .i64 lk) (.int .i64 ln) ∧ Kinds X ∧ Below W.heap.size W X
theorem SafeV.later {W : World} {H L V : Nat} {kk a0 a1 lk ln : Int} {r : Int × Int} {X Y : World} (h : SafeV W H L V kk a0 a1 lk ln r X) (hb : Below X.heap.size X Y) : SafeV W H L V kk a0 a1 lk ln r Y := by
  obtain ⟨v0, v1, c0, c1, c2, hL, hK, hB⟩ := h
  have hH := World.block_lt_of_cell? _ _ c0
  have hV := World.block_lt_of_cell? _ _ v0
  have e : ∀ j, Y.cell? ⟨H, j, none⟩ = X.cell? ⟨H, j, none⟩ := fun j => hb.cell (p := ⟨H, j, none⟩) hH
  have e' : ∀ j, Y.cell? ⟨V, j, none⟩ = X.cell? ⟨V, j, none⟩ := fun j => hb.cell (p := ⟨V, j, none⟩) hV
  exact ⟨(e' _).trans v0, (e' _).trans v1, (e _).trans c0, (e _).trans c1, (e _).trans c2, hL.later hb, hK.later hb, below_step hB hb⟩
theorem SafeS.boxed {W : World} {H L : Nat} {kk a0 a1 lk ln : Int} {X : World} (h : SafeS W H L kk a0 a1 lk ln X) (x y : Int) (t : TypeId) : SafeV W H L X.heap.size kk a0 a1 lk ln (x, y) (X.alloc (.cells #[.int .i64 x, .int .i64 y] t)) := by
  have hb := (Below.refl X.heap.size X).alloc (Nat.le_refl _) (.cells #[.int .i64 x, .int .i64 y] t)
  obtain ⟨-, c0, c1, c2, hL, hK, hB⟩ := h.later hb
  have hx := Box.new X (.int .i64 x) (.int .i64 y) t
  exact ⟨hx.1, hx.2.1, c0, c1, c2, hL, hK, hB⟩

set_option maxRecDepth 10000 in
set_option maxHeartbeats 1000000 in
theorem safe_walk (a : Option Addr) (cap : Nat) (os : List Opn) (W : World) (hK : Kinds W) (hO : Ops W a os) :
    Calls Tryd.prog 4 #[.slice a os.length cap] W fun e W' => e = .returned (.bool true) ∧ Below W.heap.size W W' := by
  go_enter Tryd.func4, Tryd.ntmps4
  go_wp2_with (first | (go_at_call 9; refine (known_true _ hK).mono ?_; rintro e w1 ⟨rfl, hb1⟩) | (go_at_call 10; refine (c_any 1 _).mono ?_; rintro e w2 ⟨rfl, hb2⟩))
  have hB2 := below_step hb1 hb2
  have hK2 := (hK.later hb1).later hb2
  have hL := Box.new w2 (.int .i64 1) (.int .i64 1) 24
  have hb3 := (Below.refl w2.heap.size w2).alloc (Nat.le_refl _) (.cells #[.int .i64 1, .int .i64 1] 24)
  have hK3 := hK2.later hb3
  have hB3 := below_step hB2 hb3
  have hWL : W.heap.size ≤ w2.heap.size := hB2.size
  generalize w2.alloc (.cells #[.int .i64 1, .int .i64 1] 24) = w3 at *
  generalize w2.heap.size = L at *
  clear hb1 hb2 hb3 hB2 hK2
  have hkg := hK.1
  go_loopw [4] (fun x wr => ∃ (j : Nat) (lk ln : Int), j ≤ os.length ∧ x = .int .i64 j ∧ Box wr L (.int .i64 lk) (.int .i64 ln) ∧ Kinds wr ∧ Below W.heap.size W wr) (fun x _ => os.length - (intOf x).toNat)
  case atStart => exact ⟨0, 1, 1, by omega, rfl, hL, hK3, hB3⟩
  case round =>
    obtain ⟨j, lk, ln, hj, rfl, hLj, hKj, hBj⟩ := hrel
    clear hL hK3 hB3
    by_cases hlt : j < os.length
    · have hlt' : (j : Int) < os.length := by omega
      by_cases h60 : j < 60
      · have h60' : (j : Int) < 60 := by omega
        obtain ⟨b, off, rfl, hb, ⟨c0, c1, c2, c3, c4, c5, c6, c7, c8, c9, c10, c11⟩, hVb, hVl⟩ := hO.at hBj hlt
        generalize os[j] = o at *
        by_cases hg2 : o.vs.length ≤ 16384
        · have hg2' : ¬ (16384 : Int) < o.vs.length := by omega
          by_cases hk0 : o.kind = 0
          · have hk0' : (o.kind == 0) = true := by simpa using hk0
            obtain ⟨l0, l1, l2, l3⟩ := hLj.alloc (.cells (opl 0 o.k0 o.n0 o.k1 o.n1 o.k2 o.n2 o.num o.den o.mode (.slice o.ba o.bs.length o.bcap) (.slice o.la o.vs.length o.lcap)) 38)
            go_wp2_with (go_at_call 11; fail)
            generalize wrap64 (1 + wrap64 ((IntKind.u64.wrap o.num).tmod 13)) = kk at *
            clear l0 l1 l2 l3
            obtain ⟨r, hr⟩ : ∃ r, Hid (r = ansOp kk lk ln o.k1 o.n1 o.k2 o.n2 o.num o.den o.mode o.bs o.vs) := ⟨_, rfl⟩
            have hbo := (Below.refl wr.heap.size wr).alloc (Nat.le_refl _) (.cells (opl kk lk ln o.k1 o.n1 o.k2 o.n2 o.num o.den o.mode (.slice o.ba o.bs.length o.bcap) (.slice o.la o.vs.length o.lcap)) 38)
            have hSd : Sound r := by rw [hr.out]; exact sound_op _ _ _ _ _ _ _ _ _ _ _ _
            have hFl : lk = 6 → M.valid 6 ln = true → (1 ≤ kk ∧ kk ≤ 13) → r = (6, ln) := fun h1 h2 h3 => by rw [hr.out, h1]; exact fault_op _ _ _ _ _ _ _ _ _ _ _ h2 h3
            have hS0 := safe_new hKj hLj hBj kk lk ln o.k1 o.n1 o.k2 o.n2 o.num o.den o.mode (.slice o.ba o.bs.length o.bcap) (.slice o.la o.vs.length o.lcap) 38
            refine (does_any kk lk ln o.k1 o.n1 o.k2 o.n2 o.num o.den o.mode o.bs o.vs o.ba o.bcap o.la o.lcap _ (hKj.later hbo) (fun _ => by omega) (hVb.later hbo) (hVl.later hbo) r hr).mono ?_
            rintro e w5 ⟨rfl, hb5⟩
            have hS5 := hS0.later hb5
            clear hbo hb5 hS0 hKj hLj hBj hVb hVl c0 c1 c2 c3 c4 c5 c6 c7 c8 c9 c10 c11 hr
            have hS6 := hS5.boxed r.1 r.2 24
            have hwH := hS5.1
            clear hS5
            generalize wr.heap.size = H at *
            have hv6 := valid_any r.1 r.2 (w5.alloc (.cells #[.int .i64 r.1, .int .i64 r.2] 24)) hS6.2.2.2.2.2.2.1
            rw [hSd.1] at hv6
            have hr0 : (r.1 == 0) = false := by simpa using hSd.2
            go_wp2_with (go_at_call 12; fail)
            refine hv6.mono ?_
            rintro e w6 ⟨rfl, hb6⟩
            have hS7 := hS6.later hb6
            have hwV := Nat.le_refl w5.heap.size
            clear hS6 hb6 hv6
            generalize w5.heap.size = V at *
            obtain ⟨v0, v1, d0, d1, d2, hL7, hK7, hB7⟩ := id hS7
            obtain ⟨l0, l1, l2, l3⟩ := id hL7
            by_cases g1 : 1 ≤ kk
            · by_cases g2 : kk ≤ 13
              · by_cases g3 : lk = 6
                · have g3' : (lk == 6) = true := by simpa using g3
                  have hvA := valid_any 6 ln w6 hK7
                  cases hvb : M.valid 6 ln
                  · rw [hvb] at hvA
                    go_wp2_with (go_at_call 12; fail)
                    refine hvA.mono ?_
                    rintro e w7 ⟨rfl, hb7⟩
                    have hS8 := hS7.later hb7
                    clear hS7 hb7 v0 v1 d0 d1 d2 hL7 hK7 hB7 l0 l1 l2 l3
                    obtain ⟨v0, v1, d0, d1, d2, hL8, hK8, hB8⟩ := id hS8
                    obtain ⟨l0, l1, l2, l3⟩ := id hL8
                    go_wp2
                    go_roundw
                    case rel => exact ⟨j + 1, r.1, r.2, by omega, by go_num, box_set hL8, kinds_off (o := 1) (v := .int .i64 r.2) (kinds_off (o := 0) (v := .int .i64 r.1) hK8 (k := L) (by omega)) (k := L) (by omega), (hB8.setCell (p := ⟨L, 0, none⟩) hWL _).setCell (p := ⟨L, 1, none⟩) hWL _⟩
                    case measure => simp [intOf]; omega
                  · rw [hvb] at hvA
                    have hrA := hFl g3 hvb ⟨g1, g2⟩
                    go_wp2_with (go_at_call 12; fail)
                    refine hvA.mono ?_
                    rintro e w7 ⟨rfl, hb7⟩
                    have hS8 := hS7.later hb7
                    clear hS7 hb7 v0 v1 d0 d1 d2 hL7 hK7 hB7 l0 l1 l2 l3
                    obtain ⟨v0, v1, d0, d1, d2, hL8, hK8, hB8⟩ := id hS8
                    obtain ⟨l0, l1, l2, l3⟩ := id hL8
                    have hr1 : r.1 = 6 := by rw [hrA]
                    have hr2 : r.2 = ln := by rw [hrA]
                    have he1 : (r.1 == 6) = true := by simpa using hr1
                    have he2 : (r.2 == ln) = true := by simpa using hr2
                    clear hr1 hr2 hrA
                    go_wp2
                    go_roundw
                    case rel => exact ⟨j + 1, 6, ln, by omega, by go_num, box_set hL8, kinds_off (o := 1) (v := .int .i64 ln) (kinds_off (o := 0) (v := .int .i64 6) hK8 (k := L) (by omega)) (k := L) (by omega), (hB8.setCell (p := ⟨L, 0, none⟩) hWL _).setCell (p := ⟨L, 1, none⟩) hWL _⟩
                    case measure => simp [intOf]; omega
                · have g3' : (lk == 6) = false := by simpa using g3
                  go_wp2
                  go_roundw
                  case rel => exact ⟨j + 1, r.1, r.2, by omega, by go_num, box_set hL7, kinds_off (o := 1) (v := .int .i64 r.2) (kinds_off (o := 0) (v := .int .i64 r.1) hK7 (k := L) (by omega)) (k := L) (by omega), (hB7.setCell (p := ⟨L, 0, none⟩) hWL _).setCell (p := ⟨L, 1, none⟩) hWL _⟩
                  case measure => simp [intOf]; omega
              · go_wp2
                go_roundw
                case rel => exact ⟨j + 1, r.1, r.2, by omega, by go_num, box_set hL7, kinds_off (o := 1) (v := .int .i64 r.2) (kinds_off (o := 0) (v := .int .i64 r.1) hK7 (k := L) (by omega)) (k := L) (by omega), (hB7.setCell (p := ⟨L, 0, none⟩) hWL _).setCell (p := ⟨L, 1, none⟩) hWL _⟩
                case measure => simp [intOf]; omega
            · go_wp2
              go_roundw
              case rel => exact ⟨j + 1, r.1, r.2, by omega, by go_num, box_set hL7, kinds_off (o := 1) (v := .int .i64 r.2) (kinds_off (o := 0) (v := .int .i64 r.1) hK7 (k := L) (by omega)) (k := L) (by omega), (hB7.setCell (p := ⟨L, 0, none⟩) hWL _).setCell (p := ⟨L, 1, none⟩) hWL _⟩
              case measure => simp [intOf]; omega
          · have hk0' : (o.kind == 0) = false := by simpa using hk0
            go_wp2_with (go_at_call 11; fail)
            obtain ⟨r, hr⟩ : ∃ r, Hid (r = ansOp o.kind o.k0 o.n0 o.k1 o.n1 o.k2 o.n2 o.num o.den o.mode o.bs o.vs) := ⟨_, rfl⟩
            have hbo := (Below.refl wr.heap.size wr).alloc (Nat.le_refl _) (.cells (opl o.kind o.k0 o.n0 o.k1 o.n1 o.k2 o.n2 o.num o.den o.mode (.slice o.ba o.bs.length o.bcap) (.slice o.la o.vs.length o.lcap)) 38)
            have hSd : Sound r := by rw [hr.out]; exact sound_op _ _ _ _ _ _ _ _ _ _ _ _
            have hFl : o.k0 = 6 → M.valid 6 o.n0 = true → (1 ≤ o.kind ∧ o.kind ≤ 13) → r = (6, o.n0) := fun h1 h2 h3 => by rw [hr.out, h1]; exact fault_op _ _ _ _ _ _ _ _ _ _ _ h2 h3
            have hS0 := safe_new hKj hLj hBj o.kind o.k0 o.n0 o.k1 o.n1 o.k2 o.n2 o.num o.den o.mode (.slice o.ba o.bs.length o.bcap) (.slice o.la o.vs.length o.lcap) 38
            refine (does_any o.kind o.k0 o.n0 o.k1 o.n1 o.k2 o.n2 o.num o.den o.mode o.bs o.vs o.ba o.bcap o.la o.lcap _ (hKj.later hbo) (fun _ => by omega) (hVb.later hbo) (hVl.later hbo) r hr).mono ?_
            rintro e w5 ⟨rfl, hb5⟩
            have hS5 := hS0.later hb5
            clear hbo hb5 hS0 hKj hLj hBj hVb hVl c0 c1 c2 c3 c4 c5 c6 c7 c8 c9 c10 c11 hr
            have hS6 := hS5.boxed r.1 r.2 24
            have hwH := hS5.1
            clear hS5
            generalize wr.heap.size = H at *
            have hv6 := valid_any r.1 r.2 (w5.alloc (.cells #[.int .i64 r.1, .int .i64 r.2] 24)) hS6.2.2.2.2.2.2.1
            rw [hSd.1] at hv6
            have hr0 : (r.1 == 0) = false := by simpa using hSd.2
            go_wp2_with (go_at_call 12; fail)
            refine hv6.mono ?_
            rintro e w6 ⟨rfl, hb6⟩
            have hS7 := hS6.later hb6
            have hwV := Nat.le_refl w5.heap.size
            clear hS6 hb6 hv6
            generalize w5.heap.size = V at *
            obtain ⟨v0, v1, d0, d1, d2, hL7, hK7, hB7⟩ := id hS7
            obtain ⟨l0, l1, l2, l3⟩ := id hL7
            by_cases g1 : 1 ≤ o.kind
            · by_cases g2 : o.kind ≤ 13
              · by_cases g3 : o.k0 = 6
                · have g3' : (o.k0 == 6) = true := by simpa using g3
                  have hvA := valid_any 6 o.n0 w6 hK7
                  cases hvb : M.valid 6 o.n0
                  · rw [hvb] at hvA
                    go_wp2_with (go_at_call 12; fail)
                    refine hvA.mono ?_
                    rintro e w7 ⟨rfl, hb7⟩
                    have hS8 := hS7.later hb7
                    clear hS7 hb7 v0 v1 d0 d1 d2 hL7 hK7 hB7 l0 l1 l2 l3
                    obtain ⟨v0, v1, d0, d1, d2, hL8, hK8, hB8⟩ := id hS8
                    obtain ⟨l0, l1, l2, l3⟩ := id hL8
                    go_wp2
                    go_roundw
                    case rel => exact ⟨j + 1, r.1, r.2, by omega, by go_num, box_set hL8, kinds_off (o := 1) (v := .int .i64 r.2) (kinds_off (o := 0) (v := .int .i64 r.1) hK8 (k := L) (by omega)) (k := L) (by omega), (hB8.setCell (p := ⟨L, 0, none⟩) hWL _).setCell (p := ⟨L, 1, none⟩) hWL _⟩
                    case measure => simp [intOf]; omega
                  · rw [hvb] at hvA
                    have hrA := hFl g3 hvb ⟨g1, g2⟩
                    go_wp2_with (go_at_call 12; fail)
                    refine hvA.mono ?_
                    rintro e w7 ⟨rfl, hb7⟩
                    have hS8 := hS7.later hb7
                    clear hS7 hb7 v0 v1 d0 d1 d2 hL7 hK7 hB7 l0 l1 l2 l3
                    obtain ⟨v0, v1, d0, d1, d2, hL8, hK8, hB8⟩ := id hS8
                    obtain ⟨l0, l1, l2, l3⟩ := id hL8
                    have hr1 : r.1 = 6 := by rw [hrA]
                    have hr2 : r.2 = o.n0 := by rw [hrA]
                    have he1 : (r.1 == 6) = true := by simpa using hr1
                    have he2 : (r.2 == o.n0) = true := by simpa using hr2
                    clear hr1 hr2 hrA
                    go_wp2
                    go_roundw
                    case rel => exact ⟨j + 1, 6, o.n0, by omega, by go_num, box_set hL8, kinds_off (o := 1) (v := .int .i64 o.n0) (kinds_off (o := 0) (v := .int .i64 6) hK8 (k := L) (by omega)) (k := L) (by omega), (hB8.setCell (p := ⟨L, 0, none⟩) hWL _).setCell (p := ⟨L, 1, none⟩) hWL _⟩
                    case measure => simp [intOf]; omega
                · have g3' : (o.k0 == 6) = false := by simpa using g3
                  go_wp2
                  go_roundw
                  case rel => exact ⟨j + 1, r.1, r.2, by omega, by go_num, box_set hL7, kinds_off (o := 1) (v := .int .i64 r.2) (kinds_off (o := 0) (v := .int .i64 r.1) hK7 (k := L) (by omega)) (k := L) (by omega), (hB7.setCell (p := ⟨L, 0, none⟩) hWL _).setCell (p := ⟨L, 1, none⟩) hWL _⟩
                  case measure => simp [intOf]; omega
              · go_wp2
                go_roundw
                case rel => exact ⟨j + 1, r.1, r.2, by omega, by go_num, box_set hL7, kinds_off (o := 1) (v := .int .i64 r.2) (kinds_off (o := 0) (v := .int .i64 r.1) hK7 (k := L) (by omega)) (k := L) (by omega), (hB7.setCell (p := ⟨L, 0, none⟩) hWL _).setCell (p := ⟨L, 1, none⟩) hWL _⟩
                case measure => simp [intOf]; omega
            · go_wp2
              go_roundw
              case rel => exact ⟨j + 1, r.1, r.2, by omega, by go_num, box_set hL7, kinds_off (o := 1) (v := .int .i64 r.2) (kinds_off (o := 0) (v := .int .i64 r.1) hK7 (k := L) (by omega)) (k := L) (by omega), (hB7.setCell (p := ⟨L, 0, none⟩) hWL _).setCell (p := ⟨L, 1, none⟩) hWL _⟩
              case measure => simp [intOf]; omega
        · have hg2' : (16384 : Int) < o.vs.length := by omega
          go_wp2
          go_ret
          exact ⟨rfl, hBj.alloc hBj.size _⟩
      · have h60' : ¬ (j : Int) < 60 := by omega
        go_wp2
        go_ret
        exact ⟨rfl, hBj⟩
    · have hlt' : ¬ (j : Int) < os.length := by omega
      go_wp2
      go_ret
      exact ⟨rfl, hBj⟩

end Go.Proofs.YtnmcniibcjjflaaDoor

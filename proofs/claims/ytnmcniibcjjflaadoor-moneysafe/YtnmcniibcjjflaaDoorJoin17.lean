import Derived.Test.YtnmcniibcjjflaaDoorJoin7
import Derived.Test.YtnmcniibcjjflaaDoorJoin16
import Derived.Deep.OwnRows
import Derived.Deep.RegionHeld3
namespace Go.Proofs.YtnmcniibcjjflaaDoor
open Go.RowKit

/-- Digits in a row that is there, whatever its length. -/
theorem Dig.at {w : World} {a : Option Addr} {ds : List Nat} (h : Dig w a ds) {i : Nat} (hi : i < ds.length) : ∃ g, a = some ⟨g, 0, none⟩ ∧ g < w.heap.size ∧ w.cell? ⟨g, i, none⟩ = some (dv (ds.getD i 0)) := by
  rcases h with h | ⟨g, e, hg, hc⟩
  · subst h; simp at hi
  · exact ⟨g, e, hg, hc i hi⟩

theorem wrapI {z : Int} (h1 : -9000000000000000000 ≤ z) (h2 : z ≤ 9000000000000000000) : IntKind.i64.wrap z = z := by rw [IntKind.wrap_i64]; omega

set_option maxHeartbeats 4000000 in
theorem product_any (a b : Option Addr) (ca cb : Nat) (A B : List Nat) (hA : A.length ≤ 16) (hB : B.length ≤ 16) (dA : ∀ i, A.getD i 0 ≤ 9) (dB : ∀ i, B.getD i 0 ≤ 9) (w : World) (hDa : Dig w a A) (hDb : Dig w b B) :
    Calls Tryd.prog 66 #[.slice a A.length ca, .slice b B.length cb] w fun e w' => ∃ f : Nat → Nat, e = .returned (.slice (some ⟨w.heap.size, 0, none⟩) (A.length + B.length + 1) (A.length + B.length + 1)) ∧
      Hid (M.fval f (A.length + B.length + 1) = M.val A * M.val B ∧ (∀ j, f j ≤ 30000) ∧ ∀ j, j < A.length + B.length → f j ≤ 9) ∧ w'.rowIs w.heap.size 3 (A.length + B.length + 1) (fun j => dv (f j)) ∧ Below w.heap.size w w' := by
  have hmk := fun w1 : World => run_make_row' (P := Tryd.prog) 83 3 (.int .i64 0) 8 Tryd.underlying83 infoInt rfl .i64 .i64 (A.length + B.length + 1) (by omega) (by omega) w1
  have ec : ((A.length + B.length + 1 : Nat) : Int) = (A.length : Int) + B.length + 1 := by omega
  rw [ec] at hmk
  have hR0 : (w.alloc (.cells (madeCells #[.int .i64 0] (A.length + B.length + 1)) 3)).rowIs w.heap.size 3 (A.length + B.length + 1) (fun j => dv ((fun _ => 0) j)) := World.rowIs_made w (.int .i64 0) _ _
  have hB0 : Below w.heap.size w (w.alloc (.cells (madeCells #[.int .i64 0] (A.length + B.length + 1)) 3)) := (Below.refl _ _).alloc (Nat.le_refl _) _
  clear ec
  go_enter Tryd.func66, Tryd.ntmps66
  go_wp2
  go_loopw [6] (fun x wr => ∃ (i : Nat) (f : Nat → Nat), i ≤ A.length ∧ x = .int .i64 i ∧ Hid (M.fval f (A.length + B.length + 1) = M.val (A.take i) * M.val B ∧ ∀ j, f j ≤ 1300 * i) ∧ wr.rowIs w.heap.size 3 (A.length + B.length + 1) (fun j => dv (f j)) ∧ Below w.heap.size w wr) (fun x _ => A.length - (intOf x).toNat)
  case atStart => exact ⟨0, fun _ => 0, Nat.zero_le _, rfl, ⟨by rw [M.fval_zero]; simp [M.val], fun _ => by simp⟩, hR0, hB0⟩
  case round =>
    obtain ⟨i, f, hi, rfl, hf, hrow, hb⟩ := hrel
    by_cases hlt : i < A.length
    · obtain ⟨wo, rfl⟩ : ∃ wo : World, wo = wr := ⟨_, rfl⟩
      have hlt' : (i : Int) < A.length := by omega
      clear hR0 hB0 hmk
      go_wp2
      go_loopw [7] (fun x wr => ∃ (k : Nat) (f : Nat → Nat), k ≤ B.length ∧ x = .int .i64 k ∧ Hid (M.fval f (A.length + B.length + 1) = M.val (A.take i) * M.val B + A.getD i 0 * 10 ^ i * M.val (B.take k) ∧ ∀ j, f j ≤ 1300 * i + 81 * k) ∧ wr.rowIs w.heap.size 3 (A.length + B.length + 1) (fun j => dv (f j)) ∧ Below w.heap.size w wr) (fun x _ => B.length - (intOf x).toNat)
      case atStart => exact ⟨0, f, Nat.zero_le _, rfl, ⟨by rw [hf.out.1]; simp [M.val], hf.out.2⟩, hrow, hb⟩
      case round =>
        obtain ⟨k, h, hk, rfl, hh, hrow2, hb2⟩ := hrel
        by_cases hlt2 : k < B.length
        · have hlt3 : (k : Int) < B.length := by omega
          obtain ⟨ga, rfl, hga, hca⟩ := (hDa.later hb2).at hlt
          obtain ⟨gb, rfl, hgb, hcb⟩ := (hDb.later hb2).at hlt2
          have hcl := hrow2.cell (i := i + k) (by omega)
          have hfl := hrow2.frozen (i + k)
          have hst := M.prod_step h (A.length + B.length + 1) A B i k hlt2 (by omega) hh.out.1
          have hx := hh.out.2 (i + k)
          have hya := dA i
          have hyb := dB k
          dsimp only [dv] at hca hcb hcl
          have HN : Hid (M.fval (fun j => if j = i + k then h (i + k) + A.getD i 0 * B.getD k 0 else h j) (A.length + B.length + 1) = M.val (A.take i) * M.val B + A.getD i 0 * 10 ^ i * M.val (B.take (k + 1)) ∧ ∀ j, (fun j => if j = i + k then h (i + k) + A.getD i 0 * B.getD k 0 else h j) j ≤ 1300 * i + 81 * (k + 1)) := by
            refine ⟨hst, fun j => ?_⟩
            have h1 := hh.out.2 j
            have h2 : A.getD i 0 * B.getD k 0 ≤ 9 * 9 := Nat.mul_le_mul hya hyb
            dsimp only
            split <;> omega
          have HX : Hid (∀ α β x : Nat, A.getD i 0 = α → B.getD k 0 = β → h (i + k) = x → (fun j => if j = i + k then dv (x + α * β) else dv (h j)) = (fun j => dv ((fun j => if j = i + k then h (i + k) + A.getD i 0 * B.getD k 0 else h j) j))) := by
            rintro α β x rfl rfl rfl
            funext j
            dsimp only
            split <;> rfl
          obtain ⟨α, hα⟩ : ∃ α, A.getD i 0 = α := ⟨_, rfl⟩
          obtain ⟨β, hβ⟩ : ∃ β, B.getD k 0 = β := ⟨_, rfl⟩
          obtain ⟨x, hxx⟩ : ∃ x, h (i + k) = x := ⟨_, rfl⟩
          have HF := HX.out α β x hα hβ hxx
          rw [hα] at hca hya
          rw [hβ] at hcb hyb
          rw [hxx] at hcl hx
          have hm : α * β ≤ 9 * 9 := Nat.mul_le_mul hya hyb
          have hm1 : (α : Int) * β = ((α * β : Nat) : Int) := by simp
          have hm2 : 0 ≤ (α : Int) * β := by rw [hm1]; omega
          have hm3 : (α : Int) * β ≤ 81 := by rw [hm1]; omega
          have hx2 : (x : Int) ≤ 23000 := by omega
          have HF2 : Hid ((fun j => if j = i + k then dv (x + α * β) else dv (h j)) = (fun j => dv ((fun j => if j = i + k then h (i + k) + A.getD i 0 * B.getD k 0 else h j) j))) := HF
          have hrow3 : ∀ v, v = dv (x + α * β) → (wr.setCell ⟨w.heap.size, i + k, none⟩ v).drew.rowIs w.heap.size 3 (A.length + B.length + 1) (fun j => dv ((fun j => if j = i + k then h (i + k) + A.getD i 0 * B.getD k 0 else h j) j)) := by
            rintro v rfl
            have := hrow2.set (i + k) (dv (x + α * β))
            rw [HF2.out] at this
            exact this.drew
          clear HX HF hα hβ hxx hm hm1 hst hx
          have hik : (i : Int) + k < (A.length : Int) + B.length + 1 := by omega
          have hik2 : (i : Int) + k ≤ (A.length : Int) + B.length := by omega
          have hik3 : (i : Int) + k < ((A.length + B.length + 1 : Nat) : Int) := by omega
          have hik0 : 0 ≤ (i : Int) + k := by omega
          have hwr : IntKind.i64.wrap ((i : Int) + k) = (i : Int) + k := by rw [IntKind.wrap_i64]; omega
          have hikn : ((i : Int) + k).toNat = i + k := by omega
          go_wp2
          go_region
          go_wp2
          go_roundw
          case rel => exact ⟨k + 1, _, by omega, by go_num, HN, hrow3 _ (by simp [dv]), (hb2.setCell (Nat.le_refl _) _).drew⟩
          case measure => simp [intOf]; omega
        · have HR : Hid (M.fval h (A.length + B.length + 1) = M.val (A.take (i + 1)) * M.val B ∧ ∀ j, h j ≤ 1300 * (i + 1)) := by
            have e : k = B.length := by omega
            have := hh.out
            rw [e, M.prod_row A B i hlt] at this
            exact ⟨this.1, fun j => by have := this.2 j; omega⟩
          clear hh
          go_wp2
          go_roundw
          case rel => exact ⟨i + 1, h, by omega, by go_num, HR, hrow2, hb2⟩
          case measure => simp [intOf]; omega
    · have HR : Hid (M.fval f (A.length + B.length + 1) = M.val A * M.val B ∧ ∀ j, f j ≤ 23000) := by
        have e : i = A.length := by omega
        have := hf.out
        rw [e, List.take_length] at this
        exact ⟨this.1, fun j => by have := this.2 j; omega⟩
      obtain ⟨wo, rfl⟩ : ∃ wo : World, wo = wr := ⟨_, rfl⟩
      clear hf hR0 hB0 hmk hDa hDb
      go_wp2
      go_loopw [8] (fun x wr => ∃ (j : Nat) (f : Nat → Nat), j ≤ A.length + B.length ∧ x = .int .i64 j ∧ Hid (M.fval f (A.length + B.length + 1) = M.val A * M.val B ∧ (∀ m, f m ≤ 26000) ∧ (∀ m, j < m → f m ≤ 23000) ∧ ∀ m, m < j → f m ≤ 9) ∧ wr.rowIs w.heap.size 3 (A.length + B.length + 1) (fun j => dv (f j)) ∧ Below w.heap.size w wr) (fun x _ => A.length + B.length - (intOf x).toNat)
      case atStart => exact ⟨0, f, Nat.zero_le _, rfl, ⟨HR.out.1, fun m => by have := HR.out.2 m; omega, fun m _ => HR.out.2 m, fun m hm => absurd hm (Nat.not_lt_zero m)⟩, hrow, hb⟩
      case round =>
        obtain ⟨j, h, hj, rfl, hh, hrow2, hb2⟩ := hrel
        by_cases hlt2 : j < A.length + B.length
        · have hc0 := hrow2.cell (i := j) (by omega)
          have hc1 := hrow2.cell (i := j + 1) (by omega)
          have hf0 := hrow2.frozen j
          have hf1 := hrow2.frozen (j + 1)
          have hca := M.fval_carry h j (A.length + B.length + 1) (by omega)
          have hx := hh.out.2.1 j
          have hy := hh.out.2.2.1 (j + 1) (by omega)
          have HN : Hid (M.fval (fun m => if m = j then h j % 10 else if m = j + 1 then h (j + 1) + h j / 10 else h m) (A.length + B.length + 1) = M.val A * M.val B ∧ (∀ m, (fun m => if m = j then h j % 10 else if m = j + 1 then h (j + 1) + h j / 10 else h m) m ≤ 26000) ∧ (∀ m, j + 1 < m → (fun m => if m = j then h j % 10 else if m = j + 1 then h (j + 1) + h j / 10 else h m) m ≤ 23000) ∧ ∀ m, m < j + 1 → (fun m => if m = j then h j % 10 else if m = j + 1 then h (j + 1) + h j / 10 else h m) m ≤ 9) := by
            refine ⟨by rw [hca]; exact hh.out.1, fun m => ?_, fun m hm => ?_, fun m hm => ?_⟩
            · have := hh.out.2.1 m
              dsimp only
              split
              · omega
              · split <;> omega
            · have := hh.out.2.2.1 m (by omega)
              dsimp only
              rw [if_neg (by omega), if_neg (by omega)]
              exact this
            · dsimp only
              by_cases e : m = j
              · rw [if_pos e]; omega
              · rw [if_neg e, if_neg (by omega)]
                exact hh.out.2.2.2 m (by omega)
          have hrow3 : ∀ v u : Value, v = dv (h (j + 1) + h j / 10) → u = dv (h j % 10) → ((wr.setCell ⟨w.heap.size, j + 1, none⟩ v).setCell ⟨w.heap.size, j, none⟩ u).drew.rowIs w.heap.size 3 (A.length + B.length + 1) (fun m => dv ((fun m => if m = j then h j % 10 else if m = j + 1 then h (j + 1) + h j / 10 else h m) m)) := by
            rintro v u rfl rfl
            refine (((hrow2.set (j + 1) (dv (h (j + 1) + h j / 10))).set j (dv (h j % 10))).congr fun m _ => ?_).drew
            dsimp only
            split
            · rfl
            · split <;> rfl
          have HR3 : Hid (∀ v u : Value, v = dv (h (j + 1) + h j / 10) → u = dv (h j % 10) → ((wr.setCell ⟨w.heap.size, j + 1, none⟩ v).setCell ⟨w.heap.size, j, none⟩ u).drew.rowIs w.heap.size 3 (A.length + B.length + 1) (fun m => dv ((fun m => if m = j then h j % 10 else if m = j + 1 then h (j + 1) + h j / 10 else h m) m))) := hrow3
          dsimp only [dv] at hc0 hc1
          clear hca hh hrow3 hrow HR
          have HG : Hid (∀ x y : Nat, h j = x → h (j + 1) = y → True) := fun _ _ _ _ => trivial
          obtain ⟨x, hxx⟩ : ∃ x, h j = x := ⟨_, rfl⟩
          obtain ⟨y, hyy⟩ : ∃ y, h (j + 1) = y := ⟨_, rfl⟩
          rw [hxx] at hc0 hx
          rw [hyy] at hc1 hy
          have HX : Hid (h j = x) := hxx
          have HY : Hid (h (j + 1) = y) := hyy
          have hx2 : (x : Int) ≤ 26000 := by omega
          have hy2 : (y : Int) ≤ 23000 := by omega
          clear hxx hyy HG
          have hj1 : (j : Int) < (A.length : Int) + B.length := by omega
          have hj2 : (j : Int) + 1 < (A.length : Int) + B.length + 1 := by omega
          have hj3 : (j : Int) + 1 ≤ (A.length : Int) + B.length := by omega
          have hj4 : (j : Int) ≤ (A.length : Int) + B.length := by omega
          have hj5 : (j : Int) < ((A.length + B.length + 1 : Nat) : Int) := by omega
          have hj0 : 0 ≤ (j : Int) + 1 := by omega
          have hjn : ((j : Int) + 1).toNat = j + 1 := by omega
          have hwr : IntKind.i64.wrap ((j : Int) + 1) = (j : Int) + 1 := wrapI (by omega) (by omega)
          go_wp2
          go_region
          go_wp2
          go_roundw
          case rel => exact ⟨j + 1, _, by omega, by go_num, HN, HR3.out _ _ (by rw [HX.out, HY.out]; simp [dv]) (by rw [HX.out]; simp [dv]), ((hb2.setCell (Nat.le_refl _) _).setCell (Nat.le_refl _) _).drew⟩
          case measure => simp [intOf]; omega
        · have HZ : Hid (M.fval h (A.length + B.length + 1) = M.val A * M.val B ∧ (∀ j, h j ≤ 30000) ∧ ∀ j, j < A.length + B.length → h j ≤ 9) := ⟨hh.out.1, fun m => by have := hh.out.2.1 m; omega, fun m hm => hh.out.2.2.2 m (by omega)⟩
          clear hh
          go_wp2
          go_ret
          exact ⟨h, rfl, HZ, hrow2, hb2⟩

end Go.Proofs.YtnmcniibcjjflaaDoor


namespace Go.Proofs.YtnmcniibcjjflaaDoor
open Go.RowKit

theorem product_v (a b : Option Addr) (ca cb : Nat) (A B : List Nat) (hA : A.length ≤ 16) (hB : B.length ≤ 16) (dA : ∀ i, A.getD i 0 ≤ 9) (dB : ∀ i, B.getD i 0 ≤ 9) (w : World) (hDa : Dig w a A) (hDb : Dig w b B) :
    Calls Tryd.prog 66 #[.slice a A.length ca, .slice b B.length cb] w fun e w' => ∃ (ds : List Nat) (c : Option Addr), e = .returned (.slice c ds.length ds.length) ∧ Hid (M.val ds = M.val A * M.val B ∧ ds.length ≤ 100 ∧ ∀ i, ds.getD i 0 ≤ 1000000) ∧ Dig w' c ds ∧ Below w.heap.size w w' := by
  refine (product_any a b ca cb A B hA hB dA dB w hDa hDb).mono ?_
  rintro e w' ⟨f, rfl, hf, hrow, hb⟩
  refine ⟨(List.range (A.length + B.length + 1)).map f, some ⟨w.heap.size, 0, none⟩, by simp, ⟨by rw [M.val_range]; exact hf.out.1, by simp; omega, fun i => ?_⟩, .inr ⟨w.heap.size, rfl, hrow.lt, fun i hi => ?_⟩, hb⟩
  · by_cases h : i < A.length + B.length + 1
    · have := hf.out.2.1 i
      simp [List.getD_eq_getElem?_getD, h]
      omega
    · simp [List.getD_eq_getElem?_getD, List.getElem?_eq_none (l := List.range (A.length + B.length + 1)) (i := i) (by simp; omega)]
  · have h : i < A.length + B.length + 1 := by simpa using hi
    rw [hrow.cell h]
    simp [List.getD_eq_getElem?_getD, h]

theorem fval_top (f : Nat → Nat) (n : Nat) (x : Nat) (h : M.fval f (n + 1) = x) (hx : x < 10 ^ n) : f n = 0 := by
  simp only [M.fval] at h
  rcases Nat.eq_zero_or_pos (f n) with e | e
  · exact e
  · have := Nat.mul_le_mul_right (10 ^ n) e
    omega

theorem val_lt (l : List Nat) (h : ∀ i, l.getD i 0 ≤ 9) : M.val l < 10 ^ l.length := by
  induction l with
  | nil => simp [M.val]
  | cons d r ih =>
    have h0 := h 0
    have h1 := ih fun i => by have := h (i + 1); simpa using this
    simp at h0
    simp only [M.val, List.length_cons, Nat.pow_succ]
    omega

/-- The product as true digits. -/
theorem product_9 (a b : Option Addr) (ca cb : Nat) (A B : List Nat) (hA : A.length ≤ 16) (hB : B.length ≤ 16) (dA : ∀ i, A.getD i 0 ≤ 9) (dB : ∀ i, B.getD i 0 ≤ 9) (w : World) (hDa : Dig w a A) (hDb : Dig w b B) :
    Calls Tryd.prog 66 #[.slice a A.length ca, .slice b B.length cb] w fun e w' => ∃ (ds : List Nat) (c : Option Addr), e = .returned (.slice c ds.length ds.length) ∧ Hid (M.val ds = M.val A * M.val B ∧ ds.length ≤ 33 ∧ ∀ i, ds.getD i 0 ≤ 9) ∧ Dig w' c ds ∧ Below w.heap.size w w' := by
  refine (product_any a b ca cb A B hA hB dA dB w hDa hDb).mono ?_
  rintro e w' ⟨f, rfl, hf, hrow, hb⟩
  have hz := fval_top f (A.length + B.length) _ hf.out.1 (by rw [Nat.pow_add]; exact Nat.mul_lt_mul'' (val_lt A dA) (val_lt B dB))
  refine ⟨(List.range (A.length + B.length + 1)).map f, some ⟨w.heap.size, 0, none⟩, by simp, ⟨by rw [M.val_range]; exact hf.out.1, by simp; omega, fun i => ?_⟩, .inr ⟨w.heap.size, rfl, hrow.lt, fun i hi => ?_⟩, hb⟩
  · by_cases h : i < A.length + B.length + 1
    · have h9 : f i ≤ 9 := by
        by_cases e : i = A.length + B.length
        · rw [e, hz]; omega
        · exact hf.out.2.2 i (by omega)
      simp [List.getD_eq_getElem?_getD, h]
      omega
    · simp [List.getD_eq_getElem?_getD, List.getElem?_eq_none (l := List.range (A.length + B.length + 1)) (i := i) (by simp; omega)]
  · have h : i < A.length + B.length + 1 := by simpa using hi
    rw [hrow.cell h]
    simp [List.getD_eq_getElem?_getD, h]

theorem digs_nine (n i : Nat) : (M.digs n).getD i 0 ≤ 9 := by
  by_cases h : i < (M.digs n).length
  · have := M.digs_lt n _ (List.getElem_mem h)
    rw [List.getD_eq_getElem?_getD, List.getElem?_eq_getElem h]
    simp
    omega
  · rw [List.getD_eq_getElem?_getD, List.getElem?_eq_none (by omega)]
    simp

end Go.Proofs.YtnmcniibcjjflaaDoor

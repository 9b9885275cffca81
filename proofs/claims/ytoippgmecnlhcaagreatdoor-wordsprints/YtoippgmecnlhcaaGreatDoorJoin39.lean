import Derived.Test.YtoippgmecnlhcaaGreatDoorTurnWAnyP
import Derived.Test.YtoippgmecnlhcaaGreatDoorJoin26
import Derived.SizedLaws
import Derived.Test.YtoippgmecnlhcaaGreatDoorJoin8
import Derived.Test.YtoippgmecnlhcaaGreatDoorJoin33
namespace Go.Proofs.YtoippgmecnlhcaaGreatDoor
open Go.ChangeShapes Go.WideShapes Go.ChangeAt Go.WideMaps Go.WideElems Go.RowKit Go.Joins

theorem cI64 : Tryz.prog.cellsOf 2 = 1 := by kernel_rfl
theorem cTok : Tryz.prog.cellsOf 60 = 5 := by kernel_rfl
theorem laidOutP : laidOutB Tryz.prog = true := by kernel_rfl

def TkAt (W : World) (b off : Nat) (t : Q.Tk) : Prop := W.cell? ⟨b, off, none⟩ = some (.int .i64 t.1) ∧ W.cell? ⟨b, off + 1, none⟩ = some (.int .i64 t.2.1) ∧ W.cell? ⟨b, off + 2, none⟩ = some (.string ⟨t.2.2.1.toArray⟩) ∧ W.cell? ⟨b, off + 3, none⟩ = some (.int .i64 t.2.2.2.1) ∧ W.cell? ⟨b, off + 4, none⟩ = some (.int .i64 t.2.2.2.2)

theorem mem_weightsAll {H : Type} {P : Program} {e : TypeId} {d : DataW H} {n : Nat} : ∀ {l : List (DataW H)}, d ∈ l → n ∈ d.weights P e → n ∈ DataW.weightsAll P e l
  | x :: l, h, hn => by
    simp only [DataW.weightsAll, List.mem_append]
    rcases List.mem_cons.1 h with rfl | h
    · exact .inl hn
    · exact .inr (mem_weightsAll h hn)

set_option maxRecDepth 100000 in
set_option maxHeartbeats 1000000 in
theorem tok_of {H : Type} {enc : TypeId × Value → H} {W : World} {fuel : Nat} {cs : List Value} {x : DataW H × List MemPlace} {b off : Nat} (hc : ∀ j, j < 5 → W.cell? ⟨b, off + j, none⟩ = cs[j]?) (hcl : cs.length = 5)
    (hf : DataW.trod enc Tryz.prog W 0 (fun _ => true) true fuel 60 cs = some x) (hz : ∀ n ∈ x.1.weights Tryz.prog 60, n ≤ reachBytes) : ∃ o, TkAt W b off o ∧ Q.Rng o := by
  obtain ⟨xs, n, -, hx, -, hl, hg⟩ := DataW.trod_struct Tryz.underlying60 hf
  match cs, hcl, xs, hl with
  | [v0, v1, v2, v3, v4], _, [y0, y1, y2, y3, y4], _ =>
    have g0 := hg 0 _ rfl
    have g1 := hg 1 _ rfl
    have g2 := hg 2 _ rfl
    have g3 := hg 3 _ rfl
    have g4 := hg 4 _ rfl
    simp [cI] at g0 g1
    simp [cS] at g2
    simp [cI64] at g3 g4
    obtain ⟨k, e0, _, _⟩ := DataW.trod_int Tryz.underlying3 g0
    obtain ⟨a, e1, _, _⟩ := DataW.trod_int Tryz.underlying3 g1
    obtain ⟨s, e2, y2e, _⟩ := DataW.trod_string Tryz.underlying9 g2
    obtain ⟨m, e3, _, wm⟩ := DataW.trod_int Tryz.underlying2 g3
    obtain ⟨d, e4, _, wd⟩ := DataW.trod_int Tryz.underlying2 g4
    simp at e0 e1 e2 e3 e4
    subst e0 e1 e2 e3 e4
    have hlen : s.data.toList.length ≤ reachBytes := by
      apply hz
      rw [hx]
      simp only [DataW.weights, Tryz.underlying60]
      exact DataW.weights_mem_each (j := 2) (t := 9) (d := y2.1) rfl rfl _ (by rw [y2e]; simp [DataW.weights])
    refine ⟨(k, a, s.data.toList, m, d), ⟨hc 0 (by omega), hc 1 (by omega), hc 2 (by omega), hc 3 (by omega), hc 4 (by omega)⟩, ?_, range64 wm, range64 wd⟩
    exact hlen

set_option maxRecDepth 100000 in
/-- A list of tokens that came in. -/
theorem open_toks {H : Type} {enc : TypeId × Value → H} {W : World} {base : Nat} {v : Value} {d : DataW H} {ps : List MemPlace} (hval : Value.okWide Tryz.prog W .any base 22 v)
    (h : DataW.Trod enc Tryz.prog W 0 (fun _ => true) true 22 v d ps) (hz : ∀ n ∈ d.weights Tryz.prog 22, n ≤ reachBytes) : ∃ L, Q.TkRow W v L ∧ ∀ t ∈ L, Q.Rng t := by
  obtain ⟨a0, len, cap, rfl⟩ := okWide_slice Tryz.underlying22 hval
  obtain ⟨fuel, hf⟩ := h
  rcases Go.Deep.open_slice Tryz.underlying22 hf with ⟨hcs, hx⟩ | ⟨a, len', cap', m, n, D, Pl, hcs, _, hl, hm, hmm, hx, hcell⟩
  · simp [Value.cells] at hcs
    obtain ⟨rfl, rfl, rfl⟩ := hcs
    exact ⟨[], ⟨none, 0, rfl, .inl rfl⟩, fun t ht => by cases ht⟩
  · simp [Value.cells] at hcs
    obtain ⟨rfl, rfl, rfl⟩ := hcs
    simp only [if_true] at hmm
    rw [hmm] at hcell
    by_cases h0 : len = 0
    · subst h0
      exact ⟨[], ⟨some a, cap, rfl, .inl rfl⟩, fun t ht => by cases ht⟩
    obtain ⟨b, off, spot⟩ := a
    have hspot : spot = none := by
      obtain ⟨cs', h1, -⟩ := hcell 0 (by omega)
      rw [cTok] at h1
      obtain ⟨_, hlen, hc⟩ := World.cells?_some h1
      have h2 := hc 0 (by omega)
      obtain ⟨c, hcc⟩ : ∃ c, cs'[0]? = some c := ⟨cs'[0]'(by omega), List.getElem?_eq_getElem _⟩
      rw [hcc] at h2
      simpa [Addr.add] using World.cell?_spot h2
    subst hspot
    simp only [Prod.mk.injEq] at hx
    have key : ∀ i, i < len → ∃ o, TkAt W b (off + i * 5) o ∧ Q.Rng o := fun i hi => by
      obtain ⟨cs', h1, h2⟩ := hcell i (by omega)
      rw [cTok] at h1
      obtain ⟨_, hlen, hc⟩ := World.cells?_some h1
      refine tok_of (fun j hj => ?_) hlen h2 (fun n hn => hz n ?_)
      · have := hc j hj
        rwa [add_plain, add_plain] at this
      · rw [hx.1]
        simp only [DataW.weights, Tryz.underlying22, List.mem_cons, List.mem_append]
        exact .inr (.inl (mem_weightsAll (d := D i) (List.mem_map.2 ⟨i, List.mem_range.2 hi, rfl⟩) hn))
    obtain ⟨q, hq⟩ : ∃ q : Nat → Q.Tk, ∀ i, i < len → TkAt W b (off + i * 5) (q i) ∧ Q.Rng (q i) := Go.Deep.choose_lt key
    have hlen : ((List.range len).map q).length = len := by simp
    have hb : b < W.heap.size := World.block_lt_of_cell? _ _ (hq 0 (by omega)).1.1
    refine ⟨(List.range len).map q, ⟨some ⟨b, off, none⟩, cap, by rw [hlen], .inr ⟨b, off, rfl, hb, fun i hi => ?_⟩⟩, fun t ht => ?_⟩
    · rw [hlen] at hi
      have := (hq i hi).1
      unfold TkAt at this
      simpa using this
    · obtain ⟨i, hi, rfl⟩ := List.mem_map.1 ht
      exact (hq i (List.mem_range.1 hi)).2

end Go.Proofs.YtoippgmecnlhcaaGreatDoor


namespace Go.Proofs.YtoippgmecnlhcaaGreatDoor
open Go.RowKit

/-- the last i digits of a number -/
def dl (N : Nat) : Nat → List UInt8
  | 0 => []
  | i + 1 => UInt8.ofNat (48 + N / 10 ^ i % 10) :: dl N i
theorem dl_len (N i : Nat) : (dl N i).length = i := by
  induction i with
  | zero => rfl
  | succ i ih => simp [dl, ih]
theorem bcat (x : UInt8) (l : List UInt8) : ByteArray.mk #[x] ++ ByteArray.mk l.toArray = ByteArray.mk (x :: l).toArray := by
  apply ByteArray.ext
  simp

set_option maxRecDepth 4000 in
set_option maxHeartbeats 2000000 in
theorem rdigits_any (N many : Nat) (hm : many ≤ 9) (hN : N < 1000000) (w : World) :
    Calls Tryz.prog 61 #[.int .i64 N, .int .i64 many] w fun e w' => e = .returned (.string ⟨(dl N many).toArray⟩) ∧ w' = w := by
  obtain ⟨W, hW⟩ : ∃ W, W = w := ⟨_, rfl⟩
  rw [← hW]
  clear hW
  go_enter Tryz.func61, Tryz.ntmps61
  go_wp2
  go_loopw [0, 5, 6] (fun y s x wr => ∃ (i M : Nat), x = .int .i64 i ∧ i ≤ many ∧ y = .int .i64 M ∧ Hid (M = N / 10 ^ i) ∧ s = .string ⟨(dl N i).toArray⟩ ∧ wr = W) (fun _ _ x _ => many - (intOf x).toNat)
  case atStart => exact ⟨0, N, rfl, Nat.zero_le _, rfl, by unfold Hid; simp, rfl, rfl⟩
  case round =>
    obtain ⟨i, M, rfl, hi, rfl, hM, rfl, rfl⟩ := hrel
    by_cases hlt : i = many
    · subst hlt
      go_wp2
      go_ret
      exact ⟨rfl, rfl⟩
    · have h1 : (i : Int) < many := by omega
      have hMb : M < 1000000 := by rw [hM.out]; exact Nat.lt_of_le_of_lt (Nat.div_le_self _ _) hN
      have hlen := dl_len N i
      have hcat := bcat (UInt8.ofNat (48 + N / 10 ^ i % 10)) (dl N i)
      obtain ⟨M3, hM3⟩ : ∃ M3 : Nat, Hid (M3 = M / 10) := ⟨_, rfl⟩
      have eq : (M : Int).tdiv 10 = (M3 : Int) := by have := hM3.out; rw [Int.tdiv_eq_ediv_of_nonneg (by omega)]; omega
      have m3 : M3 < 1000000 := by have := hM3.out; omega
      have hM4 : Hid (M3 = N / 10 ^ (i + 1)) := by
        unfold Hid
        rw [hM3.out, hM.out, Nat.div_div_eq_div_mul, ← Nat.pow_succ]
      have hdl : dl N (i + 1) = UInt8.ofNat (48 + N / 10 ^ i % 10) :: dl N i := rfl
      have hR : (M : Int) % 10 = ((N / 10 ^ i % 10 : Nat) : Int) := by have := hM.out; omega
      rw [← hdl] at hcat
      have em : (M : Int).tmod 10 = (M : Int) % 10 := Int.tmod_eq_emod_of_nonneg (by omega)
      have r10 : N / 10 ^ i % 10 < 10 := by omega
      generalize N / 10 ^ i % 10 = r at *
      rw [hR] at em
      have : r = 0 ∨ r = 1 ∨ r = 2 ∨ r = 3 ∨ r = 4 ∨ r = 5 ∨ r = 6 ∨ r = 7 ∨ r = 8 ∨ r = 9 := by omega
      clear hM hM3 hdl hR
      have hcat2 : Hid _ := hcat
      clear hcat
      rcases this with rfl | rfl | rfl | rfl | rfl | rfl | rfl | rfl | rfl | rfl
      all_goals
        go_wp2
        refine ⟨⟨i + 1, M3, by simp, by omega, rfl, hM4, congrArg Value.string ?_, trivial⟩, by simp [intOf]; omega⟩
        rw [← hcat2.out]
        exact congrArg (· ++ ByteArray.mk (dl N i).toArray) (by decide)

end Go.Proofs.YtoippgmecnlhcaaGreatDoor


namespace Go.Proofs.YtoippgmecnlhcaaGreatDoor
open Go.RowKit

theorem dg_toNat (N k : Nat) : (dg N k).toNat = 48 + N / 10 ^ k % 10 := by unfold dg; omega
theorem txt_list (Y M K : Nat) : dl Y 4 ++ [45] ++ dl M 2 ++ [45] ++ dl K 2 = bytesOf (txt Y M K) := by
  simp [dl, bytesOf, List.range_succ, txt, dg_toNat, form]
theorem catB (Y M K : Nat) : ByteArray.mk (dl Y 4).toArray ++ ByteArray.mk #[45] ++ ByteArray.mk (dl M 2).toArray ++ ByteArray.mk #[45] ++ ByteArray.mk (dl K 2).toArray = ByteArray.mk (bytesOf (txt Y M K)).toArray := by
  rw [← txt_list]
  apply ByteArray.ext
  simp
theorem catSz (l : List UInt8) : (ByteArray.mk l.toArray).size = l.length := by simp [ByteArray.size]

set_option maxRecDepth 4000 in
set_option maxHeartbeats 2000000 in
theorem rprint_yes (n k d : Int) (h : D.At n k d) (Y M K : Nat) (hY : (Y : Int) = 1900 + k / 12) (hMM : (M : Int) = k % 12 + 1) (hK : (K : Int) = d + 1) (w : World) :
    Calls Tryz.prog 46 #[.int .i64 n] w fun e w' => e = .returned (.tuple #[.string ⟨(bytesOf (txt Y M K)).toArray⟩, .int .i64 0]) ∧ w' = w := by
  have hD : Hid (D.Dat n Y M K 0) := by rw [hY, hMM, hK]; exact .yes k d h
  have d1 := h.d1
  have d2 := D.ln_bd k
  have k1 := h.k1
  have hA := rdigits_any Y 4 (by omega) (by omega) w
  have hB := rdigits_any M 2 (by omega) (by omega) w
  have hC := rdigits_any K 2 (by omega) (by omega) w
  have hcat := catB Y M K
  have s1 : (ByteArray.mk (dl Y 4).toArray).size = 4 := by rw [catSz, dl_len]
  have s2 : (ByteArray.mk (dl M 2).toArray).size = 2 := by rw [catSz, dl_len]
  have s3 : (ByteArray.mk (dl K 2).toArray).size = 2 := by rw [catSz, dl_len]
  generalize ByteArray.mk (dl Y 4).toArray = SA at *
  generalize ByteArray.mk (dl M 2).toArray = SB at *
  generalize ByteArray.mk (dl K 2).toArray = SC at *
  generalize ByteArray.mk (bytesOf (txt Y M K)).toArray = S at *
  clear h hY hMM hK
  go_enter Tryz.func46, Tryz.ntmps46
  go_wp2_with (first | (go_at_call 60; refine (rdate_any n Y M K 0 _ hD).mono ?_; clear hD; rintro _ w ⟨rfl, rfl⟩) | (go_at_call 61; refine hA.mono ?_; clear hA; rintro _ w ⟨rfl, rfl⟩) | (go_at_call 61; refine hB.mono ?_; clear hB; rintro _ w ⟨rfl, rfl⟩) | (go_at_call 61; refine hC.mono ?_; clear hC; rintro _ w ⟨rfl, rfl⟩))
  exact bodyPost_ret (v := .tuple #[.string S, .int .i64 0]) (by simp [results, Tryz.results46, go_sem]) rfl ⟨rfl, rfl⟩

theorem rprint_no (n : Int) (hn : ¬ (0 ≤ n ∧ n ≤ 109572)) (w : World) :
    Calls Tryz.prog 46 #[.int .i64 n] w fun e w' => e = .returned (.tuple #[.string ⟨#[]⟩, .int .i64 21]) ∧ w' = w := by
  have hD : Hid (D.Dat n 0 0 0 21) := .no hn
  clear hn
  go_enter Tryz.func46, Tryz.ntmps46
  go_wp2_with (go_at_call 60; refine (rdate_any n 0 0 0 21 _ hD).mono ?_; clear hD; rintro _ w ⟨rfl, rfl⟩)
  exact bodyPost_ret (v := .tuple #[.string ⟨#[]⟩, .int .i64 21]) (by simp [results, Tryz.results46, go_sem]) rfl ⟨rfl, rfl⟩

end Go.Proofs.YtoippgmecnlhcaaGreatDoor

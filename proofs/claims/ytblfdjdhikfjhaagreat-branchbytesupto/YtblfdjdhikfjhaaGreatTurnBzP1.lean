import Derived.Test.YtblfdjdhikfjhaaGreatTurnBzW4
import Derived.Test.YtblfdjdhikfjhaaGreatJoin36
import Derived.Test.YtblfdjdhikfjhaaGreatTurnBxDo2
namespace Go.Proofs.YtblfdjdhikfjhaaGreat.BZ
open Go.RowKit

/-- A book's branches in the order of their names. -/
def leB (a b : Br) : Bool := decide (a.nm.data.toList ≤ b.nm.data.toList)
def srt (Bs : List Br) : List Br := Bs.mergeSort leB
theorem srt_perm (Bs : List Br) : (srt Bs).Perm Bs := List.mergeSort_perm Bs leB
theorem srt_len (Bs : List Br) : (srt Bs).length = Bs.length := (srt_perm Bs).length_eq
theorem mem_srt {Bs : List Br} {b : Br} : b ∈ srt Bs ↔ b ∈ Bs := (srt_perm Bs).mem_iff
theorem nms_srt (Bs : List Br) : nmsOf (srt Bs) = (nmsOf Bs).mergeSort (fun x y => decide (x ≤ y)) := List.map_mergeSort (fun _ _ _ _ => rfl)
theorem lt_of_le_ne {a b : List UInt8} (h : a ≤ b) (hn : a ≠ b) : a < b := by
  refine Decidable.byContradiction fun hlt => hn ?_
  exact List.le_antisymm h (List.not_lt.1 hlt)
def Apart (Bs : List Br) : Prop := Bs.Pairwise fun a b => a.nm ≠ b.nm
theorem data_ne {a b : ByteArray} (h : a ≠ b) : a.data.toList ≠ b.data.toList := fun e => h (ByteArray.ext (Array.toList_inj.1 e))
theorem srt_up {Bs : List Br} (h : Apart Bs) : (srt Bs).Pairwise (fun a b => a.nm.data.toList < b.nm.data.toList) := by
  have h1 : (srt Bs).Pairwise (fun a b => leB a b = true) := List.pairwise_mergeSort (fun a b c h1 h2 => by unfold leB at *; simp only [decide_eq_true_eq] at *; exact List.le_trans h1 h2) (fun a b => by unfold leB; simp only [Bool.or_eq_true, decide_eq_true_eq]; exact List.le_total _ _) Bs
  have h2 : (srt Bs).Pairwise (fun a b => a.nm ≠ b.nm) := h.perm (srt_perm Bs).symm (fun h e => h e.symm)
  exact (h1.and h2).imp fun ⟨p, q⟩ => by
    unfold leB at p
    exact lt_of_le_ne (of_decide_eq_true p) (data_ne q)
theorem srt_unique {Bs Cs : List Br} (hp : Cs.Perm Bs) (h : Cs.Pairwise (fun a b => a.nm.data.toList < b.nm.data.toList)) : srt Bs = Cs := by
  have hA0 : Cs.Pairwise (fun a b => a.nm ≠ b.nm) := by
    refine h.imp ?_
    intro a b hlt e
    rw [e] at hlt
    exact List.lt_irrefl _ hlt
  have hA : Apart Bs := List.Pairwise.perm hA0 hp (fun h e => h e.symm)
  refine List.Perm.eq_of_pairwise (le := fun a b => a.nm.data.toList < b.nm.data.toList) (fun a b _ _ h1 h2 => absurd (List.lt_trans h1 h2) (List.lt_irrefl _)) (srt_up hA) h ((srt_perm Bs).trans hp.symm)

/-- What a book holds, in the order of its bytes. -/
def Ct (Bs : List Br) (cur : ByteArray) (xs : List Bc) (c : Nat) : Prop := (srt Bs).map toB = xs ∧ (xs.map (·.nm))[c]? = some cur.data.toList
theorem ct_nms {Bs : List Br} {cur : ByteArray} {xs : List Bc} {c : Nat} (h : Ct Bs cur xs c) : xs.map (·.nm) = nmsOf (srt Bs) := by
  rw [← h.1, List.map_map]
  rfl
theorem BookAt.apart {w : World} {lo bb : Nat} {Bs : List Br} {cur : ByteArray} (h : BookAt w lo bb Bs cur) : Apart Bs := h.ties.1
theorem BookAt.inn {w : World} {lo bb : Nat} {Bs : List Br} {cur : ByteArray} (h : BookAt w lo bb Bs cur) : ∃ b ∈ Bs, b.nm = cur := by
  obtain ⟨-, -, mb, D, -, -, -, -, -, h5, -⟩ := h
  exact h5
theorem BookAt.six {w : World} {lo bb : Nat} {Bs : List Br} {cur : ByteArray} (h : BookAt w lo bb Bs cur) : Bs.length ≤ 6 := by
  obtain ⟨-, -, mb, D, -, -, -, -, -, -, h6⟩ := h
  exact h6
theorem ct_ex {w : World} {lo bb : Nat} {Bs : List Br} {cur : ByteArray} (h : BookAt w lo bb Bs cur) : ∃ xs c, Ct Bs cur xs c := by
  obtain ⟨b, hb, e⟩ := BookAt.inn h
  obtain ⟨c, hc, e2⟩ := List.mem_iff_getElem.1 (mem_srt.2 hb)
  refine ⟨_, c, rfl, ?_⟩
  rw [List.getElem?_map, List.getElem?_map, List.getElem?_eq_getElem hc, e2]
  show some b.nm.data.toList = _
  rw [e]
theorem ct_of_in {W : World} {lo bb : Nat} {xs : List Bc} {c : Nat} (h : BkIn W lo bb xs c) : ∃ Bs cur, BookAt W lo bb Bs cur ∧ Ct Bs cur xs c := by
  obtain ⟨Bs, cur, h1, h2, h3, h4⟩ := h
  refine ⟨Bs, cur, h1, ?_, h4⟩
  rw [srt_unique (Cs := Bs.reverse) (List.reverse_perm Bs) ?_, List.map_reverse, h2]
  rw [← h2, ← List.map_reverse, List.map_map, List.pairwise_map] at h3
  exact h3
theorem ct_one {Bs : List Br} {cur cur' : ByteArray} {xs xs' : List Bc} {c c' : Nat} (hA : Apart Bs) (h : Ct Bs cur xs c) (h' : Ct Bs cur' xs' c') : xs = xs' ∧ (c = c' ↔ cur = cur') := by
  obtain ⟨rfl, h2⟩ := h
  obtain ⟨rfl, h2'⟩ := h'
  refine ⟨rfl, fun e => ?_, fun e => ?_⟩
  · rw [e, h2'] at h2
    injection h2 with h2
    exact ByteArray.ext (Array.toList_inj.1 h2.symm)
  · rw [e] at h2
    have hp : (((srt Bs).map toB).map (·.nm)).Pairwise (· < ·) := by
      rw [List.map_map, List.pairwise_map]
      exact srt_up hA
    obtain ⟨l1, e1⟩ := List.getElem?_eq_some_iff.1 h2
    obtain ⟨l2, e2⟩ := List.getElem?_eq_some_iff.1 h2'
    refine Decidable.byContradiction fun hne => ?_
    rcases Nat.lt_or_gt_of_ne hne with hlt | hlt
    · have := List.pairwise_iff_getElem.1 hp _ _ l1 l2 hlt
      rw [e1, e2] at this
      exact List.lt_irrefl _ this
    · have := List.pairwise_iff_getElem.1 hp _ _ l2 l1 hlt
      rw [e1, e2] at this
      exact List.lt_irrefl _ this

/-- Sizes. -/
theorem encN_10 {n : Nat} (h : n < 18446744073709551616) : (encN n).length ≤ 10 := encN_len 10 n (Nat.lt_of_lt_of_le h (by decide)) (by decide)
theorem encI_10 {z : Int} (h : Rg z) : (encI z).length ≤ 10 := encN_10 (zig_lt h)
theorem flat_len {β : Type} {f : β → List UInt8} {m : Nat} : ∀ (l : List β), (∀ x ∈ l, (f x).length ≤ m) → (l.flatMap f).length ≤ l.length * m
  | [], _ => by simp
  | x :: l, h => by
    have := flat_len l (fun y hy => h y (List.mem_cons_of_mem _ hy))
    have := h x (by simp)
    rw [List.flatMap_cons, List.length_append, List.length_cons, Nat.succ_mul]
    omega
theorem encD_len {A B : Es} (ha : EsOk A) (hb : EsOk B) {k : Nat} (h1 : A.length ≤ k) (h2 : B.length ≤ k) : (encD A B).length ≤ 10 + 62 * k := by
  have hv := difE_val ha.1 hb.1 (fun e he => (ha.2.2 e he).1) (fun e he => (hb.2.2 e he).1) (fun e he => (hb.2.2 e he).2)
  have hl := difE_len A B
  have := ha.2.1
  have := hb.2.1
  have h3 : (encN (difE A B).length).length ≤ 10 := encN_10 (by omega)
  have h4 := flat_len (f := encC) (m := 31) (difE A B) (fun c hc => by
    obtain ⟨p, q⟩ := hv c hc
    obtain ⟨id, o, o2⟩ := c
    simp only at p q
    cases o2 with
    | none =>
      rw [encC_none, List.length_append]
      have := encN_10 (n := id) (by omega)
      have := encN_10 (n := 0) (by omega)
      omega
    | some v =>
      obtain ⟨r1, r2⟩ := q v rfl
      rw [encC_some, List.length_append, List.length_append, List.length_append]
      have := encN_10 (n := id) (by omega)
      have h1 : (encN 1).length ≤ 1 := by rw [encN_small (by decide)]; simp
      have := encI_10 r1
      have := encI_10 r2
      omega)
  unfold encD
  rw [List.length_append]
  omega
theorem encV_le {k : Nat} : ∀ (Ls : List Es) (m : Es), EsOk m → m.length ≤ k → (∀ L ∈ Ls, EsOk L ∧ L.length ≤ k) → (encV m Ls).length ≤ Ls.length * (10 + 62 * k)
  | [], _, _, _, _ => by simp [encV]
  | L :: r, m, hm, hk, h => by
    have h0 := h L (by simp)
    have := encV_le r L h0.1 h0.2 (fun x hx => h x (List.mem_cons_of_mem _ hx))
    have := encD_len hm h0.1 hk h0.2
    unfold encV
    rw [List.length_append, List.length_cons, Nat.succ_mul]
    omega
theorem encX_len {x : Bc} (h : BcOk x) {k : Nat} (h1 : x.bs.length ≤ k) (h2 : ∀ L ∈ x.Ls, L.length ≤ k) : (encX x).length ≤ 100 + 34 * (10 + 62 * k) := by
  have a1 := isNm_len h.nm
  have a2 := encN_10 (n := x.nm.length) (by omega)
  have a3 := encD_len esOk_nil h.bs (Nat.zero_le k) h1
  have a0 := h.p
  have a00 := h.n
  have a4 := encN_10 (n := x.p) (by omega)
  have a5 := encN_10 (n := x.Ls.length - 1 - x.p) (by omega)
  have a6 := encV_le (k := k) x.Ls x.bs h.bs h1 (fun L hL => ⟨h.Ls L hL, h2 L hL⟩)
  have a7 := Nat.mul_le_mul_right (10 + 62 * k) a00
  unfold encX
  simp only [List.length_append]
  omega
theorem bcOk_of {W : World} {k : Nat} {b : Br} (hB : BrAt W b) (hG : BrG k b) (hk : k ≤ 4294967296) : BcOk (toB b) := by
  obtain ⟨⟨g, -, hm⟩, ⟨hp, hl, g0, cap, vs, -, -, -, hMs⟩, -⟩ := hB
  refine ⟨hG.nm, ⟨hm.rises, Nat.le_trans hG.bs.1 hk, fun e he => ⟨hm.small e he, hG.bs.2 e he⟩⟩, fun L hL => ?_, hp, hl⟩
  have hg := hG.Ls L hL
  obtain ⟨i, hi, rfl⟩ := List.mem_iff_getElem.1 hL
  have hm := (hMs.2 i hi).2.1
  exact ⟨hm.rises, Nat.le_trans hg.1 hk, fun e he => ⟨hm.small e he, hg.2 e he⟩⟩
theorem ct_ok {W : World} {lo bb k : Nat} {Bs : List Br} {cur : ByteArray} {xs : List Bc} {c : Nat} (h : BookAt W lo bb Bs cur) (hG : Gd k Bs) (hk : k ≤ 4294967296) (hC : Ct Bs cur xs c) : BkOk xs c ∧ (encBk xs c).length ≤ 100000000000 + 20000 * k := by
  have hall : ∀ x ∈ xs, BcOk x ∧ (encX x).length ≤ 100 + 34 * (10 + 62 * k) := fun x hx => by
    rw [← hC.1] at hx
    obtain ⟨b, hb, rfl⟩ := List.mem_map.1 hx
    have hb := mem_srt.1 hb
    have hg := hG.1 b hb
    have h1 := bcOk_of (h.br hb) hg hk
    exact ⟨h1, encX_len h1 hg.bs.1 (fun L hL => (hg.Ls L hL).1)⟩
  have hlen : xs.length ≤ 6 := by
    rw [← hC.1, List.length_map, srt_len]
    exact BookAt.six h
  have hc : c < xs.length := by
    have := (List.getElem?_eq_some_iff.1 hC.2).1
    simpa using this
  refine ⟨⟨fun x hx => (hall x hx).1, ?_, hlen, hc, ?_⟩, ?_⟩
  · rw [← hC.1, List.pairwise_map]
    exact srt_up (BookAt.apart h)
  · obtain ⟨b, hb, e⟩ := hG.2
    rw [ct_nms hC]
    refine List.mem_map.2 ⟨b, mem_srt.2 hb, ?_⟩
    rw [e]
    rfl
  · have h1 := flat_len (f := encX) xs (fun x hx => (hall x hx).2)
    have h2 := encN_10 (n := xs.length) (by omega)
    have h3 := encN_10 (n := c) (by omega)
    have h4 := Nat.mul_le_mul_right (100 + 34 * (10 + 62 * k)) hlen
    unfold encBk
    simp only [List.length_cons, List.length_append]
    omega

end Go.Proofs.YtblfdjdhikfjhaaGreat.BZ

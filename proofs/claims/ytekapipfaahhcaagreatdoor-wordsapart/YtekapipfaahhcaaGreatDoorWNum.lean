import Derived.Test.YtekapipfaahhcaaGreatDoorWTak
import Derived.Lib.ParseIntB
import Derived.Lib.AtoiErrMem
import Derived.Deep.QuietTactic
import Derived.BigQuiet
namespace Go.Proofs.YtekapipfaahhcaaGreatDoor
open Go.RowKit

set_option maxHeartbeats 1000000 in
theorem divisor_any (x y : Nat) (hx : x ≤ 9223372036854775807) (hy : y ≤ 9223372036854775807) (w : World) : Calls Tryz.prog 167 #[.int .i64 (x : Int), .int .i64 (y : Int)] w fun e w' => e = .returned (.int .i64 ((x.gcd y : Nat) : Int)) ∧ w' = w := by
  obtain ⟨G, hG⟩ : ∃ G, x.gcd y = G := ⟨_, rfl⟩
  have hG' : Hid (x.gcd y = G) := hG
  rw [hG]
  clear hG
  go_enter Tryz.func167, Tryz.ntmps167
  go_wp2
  go_loopw [0, 1] (fun u v wr => ∃ p q : Nat, p ≤ 9223372036854775807 ∧ q ≤ 9223372036854775807 ∧ u = .int .i64 (p : Int) ∧ v = .int .i64 (q : Int) ∧ p.gcd q = G ∧ wr = w) (fun u _ _ => (intOf u).toNat)
  case atStart => exact ⟨x, y, hx, hy, rfl, rfl, hG'.out, rfl⟩
  case round =>
    obtain ⟨p, q, hp, hq, rfl, rfl, hg, rfl⟩ := hrel
    clear hG'
    by_cases h0 : p = 0
    · subst h0
      have hg' : Hid (q = G) := by unfold Hid; rw [← hg]; simp
      clear hg
      go_wp2
      go_ret
      exact ⟨by rw [← hg'.out]; rfl, rfl⟩
    · have hpb : ((p : Int) != 0) = true := by simp; omega
      have hmod : (q : Int) % (p : Int) = ((q % p : Nat) : Int) := by rw [Int.natCast_emod]
      have hlt := Nat.mod_lt q (Nat.pos_of_ne_zero h0)
      have hg' : Hid ((q % p).gcd p = G) := by unfold Hid; rw [← hg, Nat.gcd_rec p q]
      clear hg
      generalize q % p = m at *
      go_wp2
      go_roundw
      case rel => exact ⟨m, p, by omega, hp, by rw [hmod], rfl, hg'.out, trivial⟩
      case measure => simp [intOf, hmod]; omega

def digs (x : List UInt8) : Prop := ∀ c ∈ x, 48 ≤ c.toNat ∧ c.toNat ≤ 57
theorem fold_ge : ∀ (x : List UInt8) (acc : Nat), acc ≤ x.foldl (fun n c => 10 * n + (c.toNat - 48)) acc
  | [], acc => Nat.le_refl _
  | c :: x, acc => by
    have := fold_ge x (10 * acc + (c.toNat - 48))
    show acc ≤ x.foldl _ (10 * acc + (c.toNat - 48))
    omega
theorem parseM_dig : ∀ (x : List UInt8) (acc : Nat), digs x → acc ≤ 18446744073709551615 → Lib.parseUintM 18446744073709551615 acc x = if x.foldl (fun n c => 10 * n + (c.toNat - 48)) acc ≤ 18446744073709551615 then .ok (x.foldl (fun n c => 10 * n + (c.toNat - 48)) acc) else .range
  | [], acc, _, ha => by
    show Lib.NumEnd.ok acc = _
    rw [List.foldl_nil, if_pos ha]
  | c :: x, acc, hd, ha => by
    have hc := hd c (by simp)
    have hx : digs x := fun d hd' => hd d (by simp [hd'])
    have hge := fold_ge x (10 * acc + (c.toNat - 48))
    rw [List.foldl_cons]
    unfold Lib.parseUintM
    rw [if_pos hc]
    by_cases h1 : 1844674407370955162 ≤ acc
    · rw [if_pos h1, if_neg (by omega)]
    · rw [if_neg h1]
      by_cases h2 : 18446744073709551615 < acc * 10 + (c.toNat - 48)
      · rw [if_pos h2, if_neg (by omega)]
      · rw [if_neg h2, show acc * 10 + (c.toNat - 48) = 10 * acc + (c.toNat - 48) from by omega]
        exact parseM_dig x _ hx (by omega)
/-- What ParseInt makes of digits. -/
theorem parse_dig {x : List UInt8} (h0 : x ≠ []) (hd : digs x) : Lib.parseIntB 64 x = if val x ≤ 9223372036854775807 then .ok (val x : Int) else .range := by
  cases x with
  | nil => exact absurd rfl h0
  | cons c r =>
    have hc := hd c (by simp)
    have hm := parseM_dig (c :: r) 0 hd (by omega)
    unfold Lib.parseIntB
    simp only [show ¬ c.toNat = 43 from by omega, show ¬ c.toNat = 45 from by omega, or_self, if_false, not_false_eq_true, true_and, false_and]
    unfold Lib.parseUintB
    rw [if_neg h0, show 2 ^ 64 - 1 = 18446744073709551615 from rfl, hm]
    show (match (if val (c :: r) ≤ 18446744073709551615 then Lib.NumEnd.ok (val (c :: r)) else .range) with | .syntax => _ | .range => _ | .ok u => _) = _
    by_cases h1 : val (c :: r) ≤ 18446744073709551615
    · rw [if_pos h1]
      by_cases h2 : val (c :: r) ≤ 9223372036854775807
      · rw [if_pos h2]
        show (if 2 ^ (64 - 1) ≤ val (c :: r) then _ else _) = _
        rw [if_neg (by show ¬ 9223372036854775808 ≤ val (c :: r); omega)]
      · rw [if_neg h2]
        show (if 2 ^ (64 - 1) ≤ val (c :: r) then _ else _) = _
        rw [if_pos (by show 9223372036854775808 ≤ val (c :: r); omega)]
    · rw [if_neg h1, if_neg (by omega)]

/-- What the makers of numbers answer. -/
def NumP (w : World) (o : Option Wd) (e : Ending) (w' : World) : Prop := ∃ (K N D : Int) (b : Bool), e = .returned (.tuple #[.agg #[.int .i64 K, .int .i64 0, .string ⟨#[]⟩, .int .i64 N, .int .i64 D], .bool b]) ∧ (o = none → b = false) ∧ (∀ wd, o = some wd → b = true ∧ wd.2.1 = [] ∧ K = wd.1 ∧ N = wd.2.2.1 ∧ D = wd.2.2.2) ∧ Below w.heap.size w w'
theorem suffix_one (c : UInt8) (l : List UInt8) : [c].isSuffixOf l = (l.getLast? == some c) := by
  unfold List.isSuffixOf
  rw [List.reverse_cons, List.reverse_nil, List.nil_append, List.getLast?_eq_head?_reverse]
  cases l.reverse with
  | nil => rfl
  | cons d r => simp [List.isPrefixOf]; exact Bool.beq_comm

set_option maxRecDepth 4000 in
set_option maxHeartbeats 2000000 in
theorem percentToken_any (n : Nat) (hn : n ≤ 9223372036854775807) (part : ByteArray) (hp : part.size ≤ 140737488351232) (hd : digs part.data.toList) (w : World) :
    Calls Tryz.prog 159 #[.int .i64 (n : Int), .string part] w (NumP w (pctTok n part.data.toList)) := by
  have hb1 := (Below.refl w.heap.size w).alloc (Nat.le_refl _) (.cells #[.int .i64 0, .int .i64 0, .string ⟨#[]⟩, .int .i64 0, .int .i64 0] 66)
  have hbox := Box5.new w 66
  have hsf := fun W => Tryz.strings_HasSuffix part ⟨#[48]⟩ W (by omega)
  rw [show (⟨#[48]⟩ : ByteArray).data.toList = [48] from rfl] at hsf
  unfold Lib.hasSuffix at hsf
  rw [suffix_one] at hsf
  by_cases hbad : 6 < part.data.toList.length ∨ part.data.toList.getLast? = some 48
  · have ho : pctTok n part.data.toList = none := by unfold pctTok; rw [if_pos hbad]
    rw [ho]
    have hcs : (6 : Int) < part.size ∨ (¬ (6 : Int) < part.size ∧ (part.data.toList.getLast? == some 48) = true) := by
      rw [size_list] at hbad
      rcases Classical.em (6 < part.size) with h | h
      · exact .inl (by omega)
      · refine .inr ⟨by omega, ?_⟩
        rcases hbad with h2 | h2
        · exact absurd h2 h
        · simpa using h2
    clear ho hbad
    obtain ⟨sb, hsb⟩ : ∃ sb, (part.data.toList.getLast? == some 48) = sb := ⟨_, rfl⟩
    rw [hsb] at hsf hcs
    clear hsb
    rcases hcs with h6 | ⟨h6, rfl⟩
    all_goals
      go_enter Tryz.func159, Tryz.ntmps159
      go_wp2_with (first | (go_at_call 166; refine (hsf _).mono ?_; rintro e w9 ⟨rfl, hw9⟩; subst w9))
      exact bodyPost_ret (v := .tuple #[.agg #[.int .i64 0, .int .i64 0, .string ⟨#[]⟩, .int .i64 0, .int .i64 0], .bool false]) (by simp [results, Tryz.results159, go_sem]) rfl ⟨0, 0, 0, false, rfl, fun _ => rfl, (fun _ h => (by cases h)), hb1⟩
  · have h6 : ¬ (6 : Int) < part.size := by rw [size_list] at hbad; omega
    have hsb : (part.data.toList.getLast? == some 48) = false := by
      have : ¬ part.data.toList.getLast? = some 48 := fun h => hbad (.inr h)
      simpa using this
    rw [hsb] at hsf
    obtain ⟨den, hden⟩ : ∃ den, 100 * 10 ^ part.data.toList.length = den := ⟨_, rfl⟩
    obtain ⟨o, ho⟩ : ∃ o, pctTok n part.data.toList = o := ⟨_, rfl⟩
    have ho' : Hid ((if n / n.gcd den ≤ 1000000000 ∧ den / n.gcd den ≤ 1000000000 then some (4, [], n / n.gcd den, den / n.gcd den) else none) = o) := by
      unfold Hid
      rw [← ho]
      unfold pctTok
      rw [if_neg hbad, hden]
    rw [ho]
    have hden' : Hid (100 * 10 ^ part.size = den) := by unfold Hid; rw [← size_list]; exact hden
    clear ho hden hbad hsb
    go_enter Tryz.func159, Tryz.ntmps159
    go_wp2_with (first | (go_at_call 166; refine (hsf _).mono ?_; rintro e w9 ⟨rfl, hw9⟩; subst w9))
    go_loopw [6] (fun d wr => ∃ pos : Nat, pos ≤ part.size ∧ wr.heap[w.heap.size + 1]? = some (.stringIter part pos) ∧ d = .int .i64 ((100 * 10 ^ pos : Nat) : Int) ∧ Below (w.alloc (.cells #[.int .i64 0, .int .i64 0, .string ⟨#[]⟩, .int .i64 0, .int .i64 0] 66)).heap.size (w.alloc (.cells #[.int .i64 0, .int .i64 0, .string ⟨#[]⟩, .int .i64 0, .int .i64 0] 66)) wr) (fun _ wr => part.size - wr.iterPos (w.heap.size + 1))
    case atStart =>
      refine ⟨0, by omega, ?_, rfl, (Below.refl _ _).alloc (Nat.le_refl _) _⟩
      have := World.iter_heap (w.alloc (.cells #[.int .i64 0, .int .i64 0, .string ⟨#[]⟩, .int .i64 0, .int .i64 0] 66)) part 0
      simpa using this
    case round =>
      obtain ⟨pos, hps, hit, rfl, hB⟩ := hrel
      have hpos0 : Hid (wr.iterPos (w.heap.size + 1) = pos) := iterPos_of hit
      by_cases hpp : pos < part.size
      · obtain ⟨r, wd, hr, hnx, hcase⟩ := next_any part pos hpp wr (w.heap.size + 1) hit
        have h1 : wd = 1 := by
          rcases hcase with ⟨-, h, -⟩ | ⟨-, h, -⟩
          · exact h
          · have := (hd _ (List.getElem_mem (by rw [size_list]; exact hpp : pos < part.data.toList.length))).2
            rw [← at_list part pos hpp] at this
            omega
        subst h1
        have hit2 := Lib.iterAt_heap wr (w.heap.size + 1) part pos (pos + 1) hit
        have hB2 := Lib.below_iterAt hB (k := w.heap.size + 1) (by simp) part (pos + 1)
        generalize wr.iterAt (w.heap.size + 1) part (pos + 1) = W1 at *
        have hpw : 100 * 10 ^ (pos + 1) = 100 * 10 ^ pos * 10 := by rw [Nat.pow_succ, Nat.mul_assoc]
        have hle : 100 * 10 ^ pos ≤ 100000000 := by
          have : 10 ^ pos ≤ 10 ^ 6 := Nat.pow_le_pow_right (by decide) (by omega)
          have h6 : 10 ^ 6 = 1000000 := by decide
          omega
        have hpw' : Hid (100 * 10 ^ (pos + 1) = 100 * 10 ^ pos * 10) := hpw
        clear hpw hcase hr
        generalize 100 * 10 ^ pos = dn at *
        go_wp2_with fail
        go_roundw
        case rel => exact ⟨pos + 1, by omega, hit2, by rw [hpw'.out]; go_num, hB2⟩
        case measure => rw [iterPos_of hit2, hpos0.out]; omega
      · obtain rfl : pos = part.size := by omega
        have hnx : ∀ ty, (Instr.next (.pointer (some ⟨w.heap.size + 1, 0, none⟩)) true ty).run Tryz.prog wr = _ := fun ty => Lib.run_next_end_at wr (w.heap.size + 1) part part.size ty hit hpp
        have hle : den ≤ 100000000 := by
          have : 10 ^ part.size ≤ 10 ^ 6 := Nat.pow_le_pow_right (by decide) (by omega)
          have h6 : 10 ^ 6 = 1000000 := by decide
          have := hden'.out
          omega
        rw [hden'.out]
        have hdiv := fun W => divisor_any n den hn (by omega) W
        have hg1 : 0 < n.gcd den := Nat.gcd_pos_of_pos_right _ (by have := hden'.out; have : 0 < 10 ^ part.size := Nat.pow_pos (by decide); omega)
        obtain ⟨g, hg⟩ : ∃ g, n.gcd den = g := ⟨_, rfl⟩
        rw [hg] at hdiv hg1 ho'
        have e1 : (n : Int) / (g : Int) = ((n / g : Nat) : Int) := by rw [Int.natCast_ediv]
        have e2 : (den : Int) / (g : Int) = ((den / g : Nat) : Int) := by rw [Int.natCast_ediv]
        have l1 : n / g ≤ n := Nat.div_le_self _ _
        have l2 : den / g ≤ den := Nat.div_le_self _ _
        have t1 : (n : Int).tdiv (g : Int) = ((n / g : Nat) : Int) := by rw [Int.tdiv_eq_ediv_of_nonneg (by omega), e1]
        have t2 : (den : Int).tdiv (g : Int) = ((den / g : Nat) : Int) := by rw [Int.tdiv_eq_ediv_of_nonneg (by omega), e2]
        generalize n / g = N at *
        generalize den / g = D at *
        have w1 : IntKind.i64.wrap (N : Int) = (N : Int) := by rw [IntKind.wrap_i64]; omega
        have w2 : IntKind.i64.wrap (D : Int) = (D : Int) := by rw [IntKind.wrap_i64]; omega
        have hg0 : (g : Int) ≠ 0 := by omega
        have hg0b : ((g : Int) == 0) = false := by simp; omega
        have hbx := hbox.later hB
        clear hg hden' hit hpos0
        go_wp2_with (first | (go_at_call 167; refine (hdiv _).mono ?_; rintro e w9 ⟨rfl, hw9⟩; subst w9))
        go_quiet (fail)
        have hbx2 : Box5 (wr.drewN nq) w.heap.size := hbx.later (below_drewN (Below.refl _ _) nq)
        have hbx3 := hbx2
        obtain ⟨⟨v0, c0⟩, ⟨v1, c1⟩, ⟨v2, c2⟩, ⟨v3, c3⟩, ⟨v4, c4⟩, hf⟩ := hbx3
        have f0 := hf 0
        have f1 := hf 1
        have f2 := hf 2
        have f3 := hf 3
        have f4 := hf 4
        clear hf
        obtain ⟨q0, q1, q2, q3, q4⟩ := set5_cells hbx2 (.int .i64 4) (.int .i64 0) (.string ⟨#[]⟩) (.int .i64 (N : Int)) (.int .i64 (D : Int))
        unfold set5 at q0 q1 q2 q3 q4
        have hBe := set5_below (below_step hb1 (below_step hB (below_drewN (Below.refl _ _) nq))) (Nat.le_refl _) (.int .i64 4) (.int .i64 0) (.string ⟨#[]⟩) (.int .i64 (N : Int)) (.int .i64 (D : Int))
        have hDb : (D : Int) ≤ 1000000000 := by omega
        by_cases hNb : N ≤ 1000000000
        · have hNb' : (N : Int) ≤ 1000000000 := by omega
          rw [if_pos ⟨hNb, by omega⟩] at ho'
          go_wp2
          refine bodyPost_ret (v := .tuple #[.agg #[.int .i64 4, .int .i64 0, .string ⟨#[]⟩, .int .i64 (N : Int), .int .i64 (D : Int)], .bool true]) (by simp [results, Tryz.results159, go_sem, q0, q1, q2, q3, q4]) rfl ⟨4, N, D, true, rfl, (fun h => by rw [← ho'.out] at h; cases h), (fun wd h => ?_), hBe⟩
          rw [← ho'.out] at h
          obtain rfl := Option.some.inj h
          exact ⟨rfl, rfl, rfl, rfl, rfl⟩
        · have hNb' : ¬ (N : Int) ≤ 1000000000 := by omega
          rw [if_neg (fun h => hNb h.1)] at ho'
          go_wp2
          refine bodyPost_ret (v := .tuple #[.agg #[.int .i64 4, .int .i64 0, .string ⟨#[]⟩, .int .i64 (N : Int), .int .i64 (D : Int)], .bool false]) (by simp [results, Tryz.results159, go_sem, q0, q1, q2, q3, q4]) rfl ⟨4, N, D, false, rfl, (fun _ => rfl), (fun wd h => ?_), hBe⟩
          rw [← ho'.out] at h
          cases h

end Go.Proofs.YtekapipfaahhcaaGreatDoor

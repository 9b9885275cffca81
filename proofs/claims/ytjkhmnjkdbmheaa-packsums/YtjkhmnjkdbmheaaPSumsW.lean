import Derived.Test.YtjkhmnjkdbmheaaPSum
import Derived.Laws.AppendOwnNone
import Derived.Lib.SmallJoins
namespace Go.Proofs.Ytjkhmnjkdbmheaa
open Go.RowKit

theorem infoB : (Try.prog.info? 5).map (fun i => (i.zero, i.size, i.bytes)) = some (some (.int .u8 0), 1, 1) := by kernel_rfl
def bysV (bs : List Nat) : List Value := bs.map (fun (n : Nat) => Value.int .u8 (n : Int))
theorem bysV_one (bs : List Nat) : ∀ u ∈ bysV bs, u.oneCell' = true := by
  intro u hu
  simp only [bysV, List.mem_map] at hu
  obtain ⟨n, -, rfl⟩ := hu
  rfl
theorem own_lenB {w : World} {base n size : Nat} {e : TypeId} {v : Value} {xs : List Value} (h : w.ownsRow base e size v n xs) : ∃ p cap, v = .slice p n cap := by
  obtain ⟨_, ⟨rfl, rfl⟩ | ⟨g, cap, cur, rfl, _⟩⟩ := h
  · exact ⟨_, _, rfl⟩
  · exact ⟨_, _, rfl⟩
theorem byts_of_own {W : World} {base n : Nat} {a : Option Addr} {cap : Nat} {bs : List Nat} (hb : ∀ n ∈ bs, n < 256) (h : W.ownsRow base 5 1 (.slice a n cap) bs.length (bysV bs)) : Byts W a bs := by
  refine ⟨hb, ?_⟩
  by_cases h0 : bs = []
  · exact .inl h0
  · obtain ⟨hl, ⟨e, h1⟩ | ⟨g, c, cur, e, h1⟩⟩ := h
    · exact absurd (List.eq_nil_of_length_eq_zero h1) h0
    · injection e with e1 e2 e3
      subst e1 e2 e3
      refine .inr ⟨g, 0, rfl, (World.ownsRow.lt ⟨hl, .inr ⟨g, _, cur, rfl, h1⟩⟩ g rfl).2, fun i hi => ?_⟩
      rw [Nat.zero_add]
      refine (World.ownsRow.cellAt ⟨hl, .inr ⟨g, _, cur, rfl, h1⟩⟩ i (by omega)).trans ?_
      simp [bysV, hi]

/-- 'append(v, b...)' where v is an empty list of the function's own: a copy. -/
theorem wpList_copyB (w : World) {ops : Array Oper} {rest : List Oper} {o : Oper} {a : Act} {Q : Exit → Act → World → Prop} (hgd : o.guard = none) (s x : Operand)
    (ho : o.op = .call { callee := .builtin .append, args := #[s, x], argTypes := #[22, 22] }) (base : Nat) (hbase : base ≤ w.heap.size) (v0 : Value) (hs : a.eval s = v0) (hv0 : w.ownsRow base 5 1 v0 0 []) (ad : Option Addr) (cap : Nat) (bs : List Nat) (hx : a.eval x = .slice ad bs.length cap) (hcap : ad = none → cap = 0) (hN : Byts w ad bs) (hlen : bs.length ≤ 262144)
    (h : ∀ a' cap' w', w'.ownsRow base 5 1 (.slice a' bs.length cap') bs.length (bysV bs) → Byts w' a' bs → Below base w w' → wpList Try.prog ops Q rest (a.put o.dst (.slice a' bs.length cap')) w') : wpList Try.prog ops Q (o :: rest) a w := by
  obtain ⟨i0, hi, hz0, hz1, hz2⟩ := info_parts infoB
  cases ad with
  | none =>
    obtain rfl := hcap rfl
    obtain ⟨h0, h1 | ⟨b, off, h1, _⟩⟩ := hN
    · subst h1
      refine wpList_plain hgd fun K hK => ?_
      have hr := run_append_owned_none (P := Try.prog) (w := w) base 22 o.type 5 i0 1 Try.underlying22 hi v0 0 [] hv0
      unfold Oper.wp execOp
      simp only [List.length_nil] at hx
      simp only [ho, resolve, invoke, builtin, Sem.run_bind, Sem.run_pure, Result.andThen_ok, List.map_toArray, List.map_cons, List.map_nil, hs, hx, hr]
      obtain ⟨p, c, rfl⟩ := (own_lenB hv0)
      exact hK _ _ (h p c w hv0 ⟨h0, .inl rfl⟩ (Below.refl _ _))
    · cases h1
  | some ad =>
    refine wpList_append_own (P := Try.prog) w hgd s x 22 ho base 5 i0 (.int .u8 0) 1 1 Try.underlying22 hi hz0 hz1 hz2 rfl (by decide) _ 0 [] hs hv0 ad bs.length cap (bysV bs) hx (by simp [bysV]) (fun j u hj => ?_) (bysV_one bs) (by unfold maxLen; omega) (by omega) hbase ?_
    · obtain ⟨h0, rfl | ⟨b, off, h1, hlt, hc⟩⟩ := hN
      · simp [bysV] at hj
      · obtain rfl := Option.some.inj h1
        have hjl : j < bs.length := by
          have := (List.getElem?_eq_some_iff.1 hj).1
          simpa [bysV] using this
        have := hc j hjl
        simp only [bysV, List.getElem?_map, List.getElem?_eq_getElem hjl, Option.map_some, Option.some.injEq] at hj
        rw [← hj]
        simp only [Addr.add]
        split
        · rename_i h0
          subst h0
          simpa using this
        · simpa using this
    · intro v' w' hown hgrow _
      simp only [Nat.zero_add, List.nil_append] at hown
      obtain ⟨p, c, rfl⟩ := own_lenB hown
      exact h p c w' hown (byts_of_own hN.1 hown) ((Below.refl _ _).grown hgrow hbase (fun j hj => (hv0.lt j hj).1))

set_option maxRecDepth 4000 in
set_option maxHeartbeats 1000000 in
theorem psums_walk (a : Option Addr) (cap : Nat) (hcap : a = none → cap = 0) (bs : List Nat) (w : World) (h : Byts w a bs) :
    Calls Try.prog 3 #[.slice a bs.length cap] w fun e w' => e = .returned (.bool true) ∧ Below w.heap.size w w' := by
  obtain ⟨i0, hi, hz0, hz1, hz2⟩ := info_parts infoB
  by_cases hlong : (262144 : Int) < (bs.length : Int)
  · go_enter Try.func3, Try.ntmps3
    go_wp2_with fail
    go_ret
    exact ⟨rfl, Below.refl _ _⟩
  · have hlen : bs.length ≤ 262144 := by omega
    have hr0 : (w.alloc (.cells #[] 5)).ownsRow w.heap.size 5 1 (.slice (some ⟨w.heap.size, 0, none⟩) 0 0) 0 [] := by
      have := World.ownsRow_made (base := w.heap.size) (e := 5) (size := 1) w #[] 0 (Nat.le_refl _) (by unfold maxLen; omega) rfl
      exact this
    have hb0 := (Below.refl w.heap.size w).alloc (Nat.le_refl _) (.cells #[] 5)
    have tok1 : True := trivial
    have hs1 := fun a cap W h => sum_any a cap bs (by omega) W h
    have hs2 := rsum_any a cap bs (by omega)
    go_enter Try.func3, Try.ntmps3
    go_wp2_with (first | (at_builtin; go_loud (refine wpList_copyB _ rfl _ _ rfl w.heap.size (by simp) _ rfl hr0 a cap bs rfl hcap (h.later hb0) hlen ?_); have _u := tok1; clear tok1; intro a1 c1 w1 ho1 hB1 hb1; have hBe := hb0.trans hb1; have h1 := h.later hBe) | (go_at_call 4; refine (hs1 _ _ _ hB1).mono ?_; rintro e w9 ⟨rfl, hw9⟩; subst w9) | (go_at_call 5; refine (hs2 _ h1).mono ?_; rintro e w9 ⟨rfl, hw9⟩; subst w9))
    clear hs1 hs2 hB1 h1 hr0 hb0
    have hn1 : ∀ n ∈ bs, n < 256 := h.1
    clear h
    go_loopw [4] (fun iv W => ∃ (i : Nat) (cs : List Nat), i ≤ bs.length ∧ iv = .int .i64 (i : Int) ∧ cs.length = bs.length ∧ (∀ n ∈ cs, n < 256) ∧ W.ownsRow w.heap.size 5 1 (.slice a1 bs.length c1) bs.length (bysV cs) ∧ Below w.heap.size w W) (fun iv _ => bs.length - (intOf iv).toNat)
    case atStart => exact ⟨0, bs, by omega, rfl, rfl, hn1, ho1, hBe⟩
    case round =>
      obtain ⟨i, cs, hi', rfl, hcl, hcb, hoc, hBc⟩ := hrel
      clear ho1 hBe hn1
      by_cases hlt : i < bs.length
      · have hlt' : (i : Int) < (bs.length : Int) := by omega
        have hi0 : (0 : Int) ≤ (i : Int) := by omega
        obtain ⟨g, c, e⟩ : ∃ g c, Value.slice a1 bs.length c1 = .slice (some ⟨g, 0, none⟩) bs.length c := by
          obtain ⟨_, ⟨e, h0⟩ | ⟨g, cap, cur, e, _⟩⟩ := hoc
          · omega
          · exact ⟨g, cap, e⟩
        injection e with e1 e2 e3
        subst e1 e3
        have hci := hoc.cellAt i (by omega)
        have hfi := hoc.frozenAt i
        have hil : i < cs.length := by omega
        have hx := hcb _ (List.getElem_mem hil)
        have hst := hoc.stored i (.int .u8 ((cs[i] ^^^ 3 : Nat) : Int))
        have hxl := xor_byte cs[i] 3 hx (by decide)
        have hset : (bysV cs).set i (.int .u8 ((cs[i] ^^^ 3 : Nat) : Int)) = bysV (cs.set i (cs[i] ^^^ 3)) := by simp [bysV, List.map_set]
        rw [hset] at hst
        have hbx : ∀ n ∈ cs.set i (cs[i] ^^^ 3), n < 256 := fun n hn => by
          rcases List.mem_or_eq_of_mem_set hn with h | h
          · exact hcb n h
          · rw [h]; exact hxl
        have hgl := (hoc.lt g rfl).1
        rw [show (bysV cs)[i]? = some (.int .u8 (cs[i] : Int)) from by simp [bysV, hil]] at hci
        have hxor := u8_xor_nat cs[i] 3 hx (by decide)
        have hB2 := hBc.setCell (p := ⟨g, i, none⟩) hgl (.int .u8 ((cs[i] ^^^ 3 : Nat) : Int))
        have hfin : Hid (∃ (j : Nat) (ds : List Nat), j ≤ bs.length ∧ Value.int .i64 ((i : Int) + 1) = .int .i64 (j : Int) ∧ ds.length = bs.length ∧ (∀ n ∈ ds, n < 256) ∧ (wr.setCell ⟨g, i, none⟩ (.int .u8 ((cs[i] ^^^ 3 : Nat) : Int))).ownsRow w.heap.size 5 1 (.slice (some ⟨g, 0, none⟩) bs.length c1) bs.length (bysV ds) ∧ Below w.heap.size w (wr.setCell ⟨g, i, none⟩ (.int .u8 ((cs[i] ^^^ 3 : Nat) : Int)))) :=
          ⟨i + 1, cs.set i (cs[i] ^^^ 3), by omega, by simp, by rw [List.length_set]; exact hcl, hbx, hst.1, hB2⟩
        generalize (cs[i] ^^^ 3) = y at *
        generalize cs[i] = x at *
        have hxor' : bits .xor .u8 (x : Int) 3 = (y : Int) := hxor
        clear hst hbx hset hoc hcb hB2 hBc hxor
        go_wp2_with fail
        go_roundw
        case rel => exact hfin.out
        case measure => simp [intOf]; omega
      · have hnlt : ¬ (i : Int) < (bs.length : Int) := by omega
        have hr2 : (wr.alloc (.cells #[] 5)).ownsRow wr.heap.size 5 1 (.slice (some ⟨wr.heap.size, 0, none⟩) 0 0) 0 [] :=
          World.ownsRow_made (base := wr.heap.size) (e := 5) (size := 1) wr #[] 0 (Nat.le_refl _) (by unfold maxLen; omega) rfl
        have hb2 := (Below.refl wr.heap.size wr).alloc (Nat.le_refl _) (.cells #[] 5)
        rw [← hcl] at hoc
        have hBy := byts_of_own hcb hoc
        have hc0 : a1 = none → c1 = 0 := fun e => by
          subst e
          obtain ⟨_, ⟨e, h0⟩ | ⟨g, cap, cur, e, _⟩⟩ := hoc
          · injection e
          · injection e with e1; cases e1
        have hs3 := sum_any a1 c1 cs (by omega) wr hBy
        have hs4 := fun a' c' W hW => rsum_any a' c' cs (by omega) W hW
        rw [hcl] at hs3 hs4
        go_wp2_with (first | (at_builtin; refine wpList_copyB _ rfl _ _ rfl wr.heap.size (by simp) _ rfl hr2 a1 c1 cs (by show _ = Value.slice a1 cs.length c1; rw [hcl]; rfl) hc0 (hBy.later hb2) (by omega) ?_; intro a2 c2 w2 ho2 hB2 hb3; rw [hcl]; have hBe2 := hBc.trans ((hb2.trans hb3).mono hBc.size)) | (go_at_call 4; refine hs3.mono ?_; rintro e w9 ⟨rfl, hw9⟩; subst w9) | (go_at_call 5; refine (hs4 _ _ _ hB2).mono ?_; rintro e w9 ⟨rfl, hw9⟩; subst w9))
        go_ret
        exact ⟨by simp, hBe2⟩

end Go.Proofs.Ytjkhmnjkdbmheaa

import Derived.Test.YthbojlbgjmecoaaGreatTurnRdB
import Derived.Test.YthbojlbgjmecoaaGreatJoin33
import Derived.Laws.MakeOwn
import Derived.Laws.AppendOwnNone
import Derived.Maps.AppendAt
/- levyref19's disk: a copy of bytes, a place, Read. -/
namespace Go.Proofs.YthbojlbgjmecoaaGreat.DJ
open Go.RowKit
set_option linter.constructorNameAsVariable false

set_option maxRecDepth 4000 in
set_option maxHeartbeats 1000000 in
theorem copied_any (a : Option Addr) (cap : Nat) (hcap : a = none → cap = 0) (bs : List Nat) (hlen : bs.length ≤ 140737488355328) (w : World) (h : Byts w a bs) : Calls Tryz.prog 36 #[.slice a bs.length cap] w fun e w' => ∃ p c, e = .returned (.slice p bs.length c) ∧ w'.ownsRow w.heap.size 5 1 (.slice p bs.length c) bs.length (bysV bs) ∧ Below w.heap.size w w' := by
  obtain ⟨i0, hi, hz0, hz1, hz2⟩ := info_parts infoB
  obtain ⟨w0, hmk, ho0, hg0⟩ := run_make_own (P := Tryz.prog) w w.heap.size 34 5 i0 _ 1 Tryz.underlying34 hi hz0 hz1 .i64 .i64 bs.length (by rw [hz2]; omega) (by unfold maxLen; omega) (Nat.le_refl _)
  have hb0 : Below w.heap.size w w0 := ⟨hg0.os, hg0.tape, hg0.output, hg0.size, fun k hk => hg0.block k hk (by simp)⟩
  have hB0 := h.later hb0
  have hs0 := hb0.size
  clear hg0 h
  go_enter Tryz.func36, Tryz.ntmps36
  go_wp2_with (at_builtin; refine wpList_copyN _ rfl _ _ rfl w.heap.size hs0 _ rfl ho0 a cap bs rfl hcap hB0 hlen ?_; intro a1 c1 w1 ho1 hB1 hb1)
  go_ret
  exact ⟨a1, c1, rfl, ho1, hb0.trans hb1⟩
theorem drewN_below (w : World) (n : Nat) : Below w.heap.size w (w.drewN n) := by
  induction n with
  | zero => exact Below.refl _ _
  | succ n ih => exact ih.drew
theorem FfT.sl {w : World} {T : Nat → Prop} {v : Value} {R : List Fl} (h : FfT w T v R) : ∃ a c, v = .slice a R.length c ∧ (a = none → c = 0) ∧ R.length ≤ c := by
  obtain ⟨⟨L, h1, h2, h3⟩, h4⟩ := h
  obtain ⟨q1, ⟨rfl, h0⟩ | ⟨g, cap, cur, rfl, hb, r, h4, -⟩⟩ := h2
  · rw [h0]
    exact ⟨none, 0, rfl, fun _ => rfl, Nat.le_refl _⟩
  · exact ⟨_, _, rfl, fun e => (by cases e), by omega⟩
theorem FfT.item {w : World} {T : Nat → Prop} {a : Option Addr} {n c : Nat} {R : List Fl} (h : FfT w T (.slice a n c) R) {i : Nat} (hi : i < R.length) : ∃ g x, a = some ⟨g, 0, none⟩ ∧ w.cell? ⟨g, i * 3, none⟩ = some (.string (strB R[i].nm)) ∧ w.cell? ⟨g, i * 3 + 1, none⟩ = some x ∧ w.cell? ⟨g, i * 3 + 2, none⟩ = some (.int .i64 (R[i].sure : Int)) ∧ FfB w 0 (R[i], x) ∧ ∀ k, x.ownBlock = some k → T k := by
  obtain ⟨⟨L, rfl, h2, h3⟩, h4⟩ := h
  have h0 := h2
  obtain ⟨q1, ⟨e, hn⟩ | ⟨g, cap, cur, e, hb, r, -⟩⟩ := h0
  · rw [hn] at hi
    cases hi
  · injection e with e1 e2 e3
    subst e1
    rw [e2] at h2
    rw [List.length_map] at hi
    obtain ⟨g1, g2, g3⟩ := ffV_get L i hi
    have hl : (ffV L).length = (L.map Prod.fst).length * 3 := h2.1
    rw [List.length_map] at hl
    have k1 := h2.cellAt (i * 3) (by rw [List.length_map]; omega)
    have k2 := h2.cellAt (i * 3 + 1) (by rw [List.length_map]; omega)
    have k3 := h2.cellAt (i * 3 + 2) (by rw [List.length_map]; omega)
    rw [List.getElem_map]
    exact ⟨g, L[i].2, rfl, k1.trans g1, k2.trans g2, k3.trans g3, h3 L[i] (List.getElem_mem hi)⟩
set_option maxRecDepth 4000 in
set_option maxHeartbeats 1000000 in
theorem place_any {T : Nat → Prop} {rb : Nat} {d : Dk} {nm : List Nat} (hb : ∀ x ∈ nm, x < 256) (w : World) (h : RdAt w T rb d) : Calls Tryz.prog 38 #[.pointer (some ⟨rb, 0, none⟩), .string (strB nm)] w fun e w' => e = .returned (.tuple #[.int .i64 (plc d.fs nm : Int), .bool (get d.fs nm).isSome]) ∧ Below w.heap.size w w' := by
  obtain ⟨v, hrow, hF⟩ := h.ex
  obtain ⟨a, c, rfl, hac, hlc⟩ := hF.sl
  obtain ⟨c0, -, -, -, -, -⟩ := rd_cells hrow
  have hok := h.ok
  have h40 := hok.len
  have h40' : (d.fs.length : Int) ≤ 40 := by omega
  have hrb := h.lt
  have hple := plc_le d.fs nm
  have hcH : Hid (∀ X, Below w.heap.size w X → X.cell? ⟨rb, 0, none⟩ = some (.slice a d.fs.length c)) := ⟨fun X hX => (hX.cell (p := ⟨rb, 0, none⟩) hrb).trans c0⟩
  have hIt : Hid (∀ i (hi : i < d.fs.length), ∃ g, a = some ⟨g, 0, none⟩ ∧ ∀ X, Below w.heap.size w X → X.cell? ⟨g, i * 3, none⟩ = some (.string (strB d.fs[i].nm))) := ⟨fun i hi => by
    obtain ⟨g, x, e, k0, -⟩ := hF.item hi
    exact ⟨g, e, fun X hX => (hX.cell (p := ⟨g, i * 3, none⟩) (World.block_lt_of_cell? _ _ k0)).trans k0⟩⟩
  have hNm : Hid (∀ i (hi : i < d.fs.length), (Op.bytesLess (strB d.fs[i].nm).toList (strB nm).toList = ltB d.fs[i].nm nm) ∧ ((strB d.fs[i].nm).toList == (strB nm).toList) = decide (d.fs[i].nm = nm)) := ⟨fun i hi => by
    have hn := hok.nmd _ (List.getElem_mem hi)
    have h1 : ∀ x ∈ d.fs[i].nm, x < 256 := fun x hx => by
      rcases hn.1 x hx with ⟨_, h⟩ | ⟨_, h⟩ | h <;> omega
    refine ⟨less_strB h1 hb, ?_⟩
    by_cases he : d.fs[i].nm = nm
    · rw [he, decide_eq_true rfl]
      exact beq_self_eq_true _
    · rw [decide_eq_false he]
      refine beq_eq_false_iff_ne.2 fun e => he (strB_inj h1 hb ?_)
      rw [Lib.toList_data, Lib.toList_data] at e
      exact ByteArray.ext (Array.toList_inj.mp e)⟩
  have hsrt := Hid.mk hok.srt
  clear hF hrow hok hac h
  go_enter Tryz.func38, Tryz.ntmps38
  go_wp2
  go_loopw [6] (fun iv wr => ∃ i : Nat, iv = .int .i64 (i : Int) ∧ i ≤ plc d.fs nm ∧ Below w.heap.size w wr) (fun iv _ => d.fs.length - (intOf iv).toNat)
  case atStart => exact ⟨0, rfl, Nat.zero_le _, Below.refl _ _⟩
  case round =>
    clear c0
    obtain ⟨i, rfl, hi, hbr⟩ := hrel
    have c0 := hcH.out wr hbr
    have hi0 : (0 : Int) ≤ (i : Int) := by omega
    have hbd : Hid (∀ n, Below w.heap.size w (wr.drewN n)) := ⟨fun n => hbr.trans ((drewN_below wr n).mono hbr.size)⟩
    by_cases hlt : i < d.fs.length
    · have hlt' : (i : Int) < (d.fs.length : Int) := by omega
      obtain ⟨g, hga, hk⟩ := hIt.out i hlt
      subst hga
      have k0 := hk wr hbr
      obtain ⟨n1, n2⟩ := hNm.out i hlt
      by_cases hp : i < plc d.fs nm
      · have hl := plc_lt hlt hp
        rw [hl] at n1
        clear n2 hl hk
        generalize strB d.fs[i].nm = A at *
        generalize strB nm = Z at *
        go_wp2
        exact ⟨⟨i + 1, rfl, hp, hbr⟩, by simp only [intOf]; omega⟩
      · obtain rfl : i = plc d.fs nm := by omega
        have hl := plc_at hlt
        rw [hl] at n1
        cases he : decide ((d.fs[plc d.fs nm]'hlt).nm = nm) with
        | true =>
          have hg := plc_get hsrt.out hlt (of_decide_eq_true he)
          rw [he] at n2
          have hgH : Hid ((get d.fs nm).isSome = true) := ⟨by rw [hg]; rfl⟩
          clear hl hk hg he
          generalize strB (d.fs[plc d.fs nm]'hlt).nm = A at *
          generalize strB nm = Z at *
          go_wp2_with fail
          go_quiet (fail)
          have hbn := hbd.out nq
          go_wp2
          refine bodyPost_ret (v := .tuple #[.int .i64 (plc d.fs nm : Int), .bool true]) (by simp [results, Tryz.results38, go_sem]) rfl ?_
          rw [hgH.out]
          exact ⟨rfl, hbn⟩
        | false =>
          have hg := plc_none hsrt.out (nm := nm) (fun _ => of_decide_eq_false he)
          rw [he] at n2
          have hgH : Hid ((get d.fs nm).isSome = false) := ⟨by rw [hg]; rfl⟩
          clear hl hk hg he
          generalize strB (d.fs[plc d.fs nm]'hlt).nm = A at *
          generalize strB nm = Z at *
          go_wp2_with fail
          go_quiet (fail)
          have hbn := hbd.out nq
          go_wp2
          refine bodyPost_ret (v := .tuple #[.int .i64 (plc d.fs nm : Int), .bool false]) (by simp [results, Tryz.results38, go_sem]) rfl ?_
          rw [hgH.out]
          exact ⟨rfl, hbn⟩
    · have hlt' : ¬ (i : Int) < (d.fs.length : Int) := by omega
      obtain rfl : i = plc d.fs nm := by omega
      have hg := plc_none hsrt.out (nm := nm) (fun h => absurd h hlt)
      have hgH : Hid ((get d.fs nm).isSome = false) := ⟨by rw [hg]; rfl⟩
      clear hg
      go_wp2_with fail
      go_quiet (fail)
      have hbn := hbd.out nq
      go_wp2
      refine bodyPost_ret (v := .tuple #[.int .i64 (plc d.fs nm : Int), .bool false]) (by simp [results, Tryz.results38, go_sem]) rfl ?_
      rw [hgH.out]
      exact ⟨rfl, hbn⟩
end Go.Proofs.YthbojlbgjmecoaaGreat.DJ


/- levyref19's disk: a file in its place. -/
namespace Go.Proofs.YthbojlbgjmecoaaGreat.DJ
open Go.RowKit
set_option linter.constructorNameAsVariable false

/-- 'append(l, files..)' to a list of one's own. -/
theorem wpList_appF (w : World) {ops : Array Oper} {rest : List Oper} {o : Oper} {a : Act} {Q : Exit → Act → World → Prop} (hgd : o.guard = none) (s x : Operand)
    (ho : o.op = .call { callee := .builtin .append, args := #[s, x], argTypes := #[22, 22] }) (base : Nat) (hbase : base ≤ w.heap.size) (v0 : Value) (n : Nat) (xs : List Value) (hs : a.eval s = v0) (hv0 : w.ownsRow base 74 3 v0 n xs) (ad : Option Addr) (m c : Nat) (hx : a.eval x = .slice ad m c) (hno : ad = none → m = 0 ∧ c = 0) (news : List Value) (hl : news.length = m * 3) (hnews : ∀ p, ad = some p → ∀ j u, news[j]? = some u → w.cell? (p.add j) = some u) (h1 : ∀ u ∈ news, u.oneCell' = true) (hlen : n + m ≤ 100)
    (h : ∀ v' w', w'.ownsRow base 74 3 v' (n + m) (xs ++ news) → w.grownBy w' v0.ownBlock → (v'.ownBlock = v0.ownBlock ∨ v'.ownBlock = some w.heap.size) → wpList Tryz.prog ops Q rest (a.put o.dst v') w') : wpList Tryz.prog ops Q (o :: rest) a w := by
  obtain ⟨i0, hi, hz0, hz1, hz2⟩ := info_parts infoFf
  cases ad with
  | none =>
    obtain ⟨rfl, rfl⟩ := hno rfl
    have : news = [] := List.eq_nil_of_length_eq_zero (by rw [hl])
    subst this
    refine wpList_append_own_none (P := Tryz.prog) hgd s x 22 ho base 74 i0 3 Tryz.underlying22 hi v0 n xs hs hv0 hx ?_
    exact h v0 w (by rw [List.append_nil]; exact hv0) ⟨rfl, rfl, rfl, Nat.le_refl _, fun _ _ _ => rfl⟩ (.inl rfl)
  | some p =>
    exact wpList_append_own_at (P := Tryz.prog) w hgd s x 22 ho base 74 i0 _ 3 48 Tryz.underlying22 hi hz0 hz1 hz2 rfl (by decide) v0 n xs hs hv0 p m c news hx hl (hnews p rfl) h1 (by unfold maxLen; omega) (by omega) hbase (fun v' w' q1 q2 _ q4 => h v' w' q1 q2 q4)
theorem ffV_len (L : List (Fl × Value)) : (ffV L).length = L.length * 3 := by
  induction L with
  | nil => rfl
  | cons x L ih =>
    rw [show ffV (x :: L) = [.string (strB x.1.nm), x.2, .int .i64 (x.1.sure : Int)] ++ ffV L from rfl, List.length_append, ih, List.length_cons]
    show 3 + L.length * 3 = (L.length + 1) * 3
    omega
theorem ffV_app (L M : List (Fl × Value)) : ffV (L ++ M) = ffV L ++ ffV M := by unfold ffV; rw [List.flatMap_append]
theorem ffV_one (L : List (Fl × Value)) (h : ∀ x ∈ L, ∃ p n c, x.2 = .slice p n c) : ∀ u ∈ ffV L, u.oneCell' = true := by
  intro u hu
  unfold ffV at hu
  obtain ⟨x, hx, hu⟩ := List.mem_flatMap.1 hu
  obtain ⟨p, n, c, e⟩ := h x hx
  simp only [List.mem_cons, List.not_mem_nil, or_false] at hu
  rcases hu with rfl | rfl | rfl
  · rfl
  · rw [e]; rfl
  · rfl
theorem size_ff (X : World) : (sizeOf (Tryz.prog.elem 22)).run Tryz.prog X = .ok 3 X := by kernel_rfl
theorem under_ff : Tryz.prog.underlying 22 = some (.slice (Tryz.prog.elem 22)) := by kernel_rfl
/-- 'files[at:]'. -/
theorem slice_ff (g : Nat) (n cap k : Nat) (hk : k ≤ n) (hn : n ≤ cap) : ∃ ad cp, (∀ X, (Instr.slice 22 (.slice (some ⟨g, 0, none⟩) n cap) (some (.int .i64 (k : Int))) none none).run Tryz.prog X = .ok (.slice (some ad) (n - k) cp) X) ∧ (k < n → ad = ⟨g, k * 3, none⟩) := by
  refine ⟨if cap = k then ⟨g, 0, none⟩ else ⟨g, k * 3, none⟩, cap - k, fun X => ?_, fun h => if_neg (by omega)⟩
  rw [run_slice_l _ _ _ _ _ under_ff .i64 (k : Int) (by omega) (by omega), size_ff, Result.andThen_ok, sliced, Int.toNat_natCast]
  congr 2
  split
  · rfl
  · simp only [Option.map_some, Go.WideShapes.add_plain, Nat.zero_add]
set_option maxRecDepth 4000 in
set_option maxHeartbeats 2000000 in
theorem radd_any {T : Nat → Prop} {rb : Nat} {d : Dk} {f : Fl} {x : Value} (hT : ∀ k, x.ownBlock = some k → T k) (hf : d.fs.length < 40) (hn : ∀ g ∈ d.fs, g.nm ≠ f.nm) (h1 : named f.nm) (h2 : f.dat.length ≤ 2097152) (h3 : f.sure ≤ f.dat.length) (h4 : ∀ y ∈ f.dat, y < 256) (w : World) (h : RdAt w T rb d) (hx : w.ownsRow 0 5 1 x f.dat.length (bysV f.dat)) : Calls Tryz.prog 39 #[.pointer (some ⟨rb, 0, none⟩), .agg #[.string (strB f.nm), x, .int .i64 (f.sure : Int)]] w fun e w' => e = .returned (.tuple #[]) ∧ ∃ T', RdAt w' T' rb { d with fs := ins d.fs f } ∧ Dv T w T' w' := by
  obtain ⟨xp, xc, rfl⟩ := own_lenB hx
  have hxo := hx
  have hb : ∀ y ∈ f.nm, y < 256 := fun y hy => by
    rcases h1.1 y hy with ⟨_, h⟩ | ⟨_, h⟩ | h <;> omega
  obtain ⟨X, hXe⟩ : ∃ X, w.alloc (.cells #[.string (strB f.nm), .slice xp f.dat.length xc, .int .i64 (f.sure : Int)] 74) = X := ⟨_, rfl⟩
  have hb0 : Below w.heap.size w X := by rw [← hXe]; exact (Below.refl _ _).alloc (Nat.le_refl _) _
  have hXl : w.heap.size < X.heap.size := by rw [← hXe]; simp
  have hXr : X.heap[w.heap.size]? = some (.cells #[.string (strB f.nm), .slice xp f.dat.length xc, .int .i64 (f.sure : Int)] 74 (0, 0)) := by rw [← hXe]; exact heap_alloc_new _ _
  have hBxH : Hid (∀ Y, Below X.heap.size X Y → Y.cell? ⟨w.heap.size, 0, none⟩ = some (.string (strB f.nm)) ∧ Y.cell? ⟨w.heap.size, 1, none⟩ = some (.slice xp f.dat.length xc) ∧ Y.cell? ⟨w.heap.size, 2, none⟩ = some (.int .i64 (f.sure : Int))) := ⟨fun Y hY => by
    have h := (hY.block _ hXl).trans hXr
    exact ⟨cell_of_row _ _ 0 _ _ _ h, cell_of_row _ _ 1 _ _ _ h, cell_of_row _ _ 2 _ _ _ h⟩⟩
  have hX := h.later hb0
  obtain ⟨v, hrow, hF⟩ := hX.ex
  obtain ⟨a, c, rfl, hac, hlc⟩ := hF.sl
  obtain ⟨⟨L, hLm, hLo, hLx⟩, hLT⟩ := hF
  have hLl : L.length = d.fs.length := by rw [← hLm, List.length_map]
  have hpl := place_any hb X hX
  have hple := plc_le d.fs f.nm
  obtain ⟨k, hk⟩ : ∃ k, plc d.fs f.nm = k := ⟨_, rfl⟩
  rw [hk] at hpl hple
  have hone : ∀ x ∈ L, ∃ p n c, x.2 = .slice p n c := fun x hx => by
    obtain ⟨p, c, e⟩ := own_lenB (hLx x hx).1.own
    exact ⟨p, _, c, e⟩
  have hrb := hX.lt
  obtain ⟨n, hnn⟩ : ∃ n, d.fs.length = n := ⟨_, rfl⟩
  rw [hnn] at hrow hlc hLo hLT hf hLl hple
  have hgr : Hid (∀ Y, Below X.heap.size X Y → Y.heap[rb]? = some (rdRow (.slice a n c) d)) := ⟨fun Y hY => (hY.block rb hrb).trans hrow⟩
  have c0X : X.cell? ⟨rb, 0, none⟩ = some (.slice a n c) := (rd_cells hrow).1
  obtain ⟨e0, e1, e2⟩ := hBxH.out X (Below.refl _ _)
  obtain ⟨g, hg⟩ : ∃ g, (get d.fs f.nm).isSome = g := ⟨_, rfl⟩
  rw [hg] at hpl
  have hkc : (k : Int) ≤ (c : Int) := by omega
  have hk0 : (0 : Int) ≤ (k : Int) := by omega
  have hkn : (k : Int) ≤ (n : Int) := by omega
  have hfin : Hid (∀ (v' : Value) (Y : World), Below X.heap.size X Y → Y.ownsRow X.heap.size 74 3 v' (n + 1) (ffV (L.take k) ++ ffV [(f, .slice xp f.dat.length xc)] ++ ffV (L.drop k)) → ∃ T', RdAt (Y.setCell ⟨rb, 0, none⟩ v') T' rb { d with fs := ins d.fs f } ∧ Dv T w T' (Y.setCell ⟨rb, 0, none⟩ v')) := ⟨fun v' Y hB ho => by
    have hsub : ∀ z, v'.ownBlock = some z → X.heap.size ≤ z := fun z hz => (ho.lt z hz).1
    have hrY : Y.heap[rb]? = some (rdRow (.slice a n c) d) := (hB.block rb hrb).trans hrow
    have hset := grS_set Y rb 0 v'
    have hlist : ins d.fs f = (L.take k ++ (f, Value.slice xp f.dat.length xc) :: L.drop k).map Prod.fst := by
      rw [ins_eq, hk, List.map_append, List.map_cons, List.map_take, List.map_drop, hLm]
    have htot : X.heap.size ≤ (Y.setCell ⟨rb, 0, none⟩ v').heap.size := by simpa using hB.size
    have hGX : GrS (fun z => z = rb) X (Y.setCell ⟨rb, 0, none⟩ v') := (GrS.of_below hB).trans hset
    have hdat : ∀ x ∈ L.take k ++ (f, Value.slice xp f.dat.length xc) :: L.drop k, FfB X 0 x ∧ ∀ z, x.2.ownBlock = some z → T z := fun x hx => by
      rcases List.mem_append.1 hx with hx | hx
      · exact hLx x (List.mem_of_mem_take hx)
      · rcases List.mem_cons.1 hx with rfl | hx
        · exact ⟨⟨h4, own_later hxo hb0⟩, hT⟩
        · exact hLx x (List.mem_of_mem_drop hx)
    have hkeep : ∀ x ∈ L.take k ++ (f, Value.slice xp f.dat.length xc) :: L.drop k, FfB (Y.setCell ⟨rb, 0, none⟩ v') 0 x := fun x hx => by
      refine (hdat x hx).1.grS hGX (fun z cs _ hc hz => ?_)
      rw [hz, hrow] at hc
      injection hc with hc
      injection hc with _ hc _
      exact absurd hc (by decide)
    have hoS : (Y.setCell ⟨rb, 0, none⟩ v').ownsRow 0 74 3 v' (ins d.fs f).length (ffV (L.take k ++ (f, Value.slice xp f.dat.length xc) :: L.drop k)) := by
      have h5 := hset.own ho (fun z hz e => by have := hsub z hz; omega)
      rw [ffV_app, show (f, Value.slice xp f.dat.length xc) :: L.drop k = [(f, Value.slice xp f.dat.length xc)] ++ L.drop k from rfl, ffV_app, ← List.append_assoc, ins_len, hnn]
      exact h5.mono (Nat.zero_le _)
    refine ⟨fun z => T z ∨ v'.ownBlock = some z, ⟨Ok.ins h.ok rfl (by omega) hn h1 h2 h3 h4, h.rigs.same rfl rfl rfl rfl, ⟨v', ?_, ⟨⟨_, hlist.symm, hoS, fun x hx => ⟨hkeep x hx, fun z hz => .inl ((hdat x hx).2 z hz)⟩⟩, fun z hz => .inr hz⟩⟩, .inl h.Trb, fun z hz => ?_⟩, ⟨?_, fun z hz => ?_⟩⟩
    · unfold rdRow at hrY
      rw [heap_setCell_same _ _ _ _ _ _ hrY]
      rfl
    · rcases hz with hz | hz
      · exact Nat.lt_of_lt_of_le (hX.hi z hz) htot
      · exact (hoS.lt z hz).2
    · refine ⟨hGX.os.trans hb0.os, hGX.tape.trans hb0.tape, hGX.output.trans hb0.output, Nat.le_trans hb0.size hGX.size, fun z hz hn => (hGX.block z (Nat.lt_of_lt_of_le hz hb0.size) (fun e => ?_)).trans (hb0.block z hz)⟩
      rw [e] at hn
      exact hn h.Trb
    · rcases hz with hz | hz
      · exact .inl hz
      · exact .inr (Nat.le_trans hb0.size (hsub z hz))⟩
  have tk : ∀ j u, (ffV (L.take k))[j]? = some u → (ffV L)[j]? = some u := fun j u hj => by
    have e : ffV L = ffV (L.take k) ++ ffV (L.drop k) := by rw [← ffV_app, List.take_append_drop]
    rw [e, List.getElem?_append_left (List.getElem?_eq_some_iff.1 hj).1]
    exact hj
  have dk : ∀ j u, (ffV (L.drop k))[j]? = some u → (ffV L)[k * 3 + j]? = some u := fun j u hj => by
    have e : ffV L = ffV (L.take k) ++ ffV (L.drop k) := by rw [← ffV_app, List.take_append_drop]
    have e2 : (ffV (L.take k)).length = k * 3 := by rw [ffV_len, List.length_take]; omega
    rw [e, List.getElem?_append_right (by omega), e2, Nat.add_sub_cancel_left]
    exact hj
  have l1 : (ffV (L.take k)).length = k * 3 := by rw [ffV_len, List.length_take]; omega
  have l3 : (ffV (L.drop k)).length = (n - k) * 3 := by rw [ffV_len, List.length_drop]; omega
  have o1 := ffV_one (L.take k) (fun x hx => hone x (List.mem_of_mem_take hx))
  have o3 := ffV_one (L.drop k) (fun x hx => hone x (List.mem_of_mem_drop hx))
  obtain ⟨C1, hC1⟩ : ∃ C1, ffV (L.take k) = C1 := ⟨_, rfl⟩
  obtain ⟨C3, hC3⟩ : ∃ C3, ffV (L.drop k) = C3 := ⟨_, rfl⟩
  rw [hC1] at tk l1 o1 hfin
  rw [hC3] at dk l3 o3 hfin
  have hgb : Hid (∀ (Y Z : World) (r : Option Nat), Below X.heap.size X Y → Y.grownBy Z r → (∀ z, r = some z → X.heap.size ≤ z) → Below X.heap.size X Z) := ⟨fun Y Z r hY hZ hr => ⟨hZ.os.trans hY.os, hZ.tape.trans hY.tape, hZ.output.trans hY.output, Nat.le_trans hY.size hZ.size, fun q hq => (hZ.block q (Nat.lt_of_lt_of_le hq hY.size) (fun e => by have := hr q e.symm; omega)).trans (hY.block q hq)⟩⟩
  by_cases hane : a = none
  · obtain rfl := hane
    obtain rfl := hac rfl
    obtain rfl : n = 0 := by omega
    obtain rfl : k = 0 := by omega
    obtain rfl : L = [] := List.eq_nil_of_length_eq_zero hLl
    have hC1' : C1 = [] := hC1.symm
    have hC3' : C3 = [] := hC3.symm
    subst hC1'
    subst hC3'
    clear hLo hLx hLT hX hrow h hx hxo
    go_enter Tryz.func39, Tryz.ntmps39
    go_wp2_with (first | (go_at_call 38; refine hpl.mono ?_; rintro e w1 ⟨rfl, hb1⟩; have r1 := hgr.out w1 hb1; have c01 := (rd_cells r1).1; have hs1 := hb1.size) | (at_builtin; refine wpList_appF w1 rfl _ _ rfl X.heap.size hs1 _ 0 [] rfl (World.ownsRow_nil _ _ _ _) none 0 0 rfl (fun _ => ⟨rfl, rfl⟩) [] rfl (fun p hp => by cases hp) (fun u hu => by cases hu) (by omega) ?_; intro v1 w2 ho1 hg1 ha1; have hb2 := hgb.out _ _ _ hb1 hg1 (fun z hz => by cases hz); have r_w2 := hgr.out w2 hb2; have c_w2 := (rd_cells r_w2).1; obtain ⟨e0_w2, e1_w2, e2_w2⟩ := hBxH.out w2 hb2; go_wp2_with (at_builtin; refine wpList_appF (w2.alloc (.cells #[.string (strB f.nm), .slice xp f.dat.length xc, .int .i64 (f.sure : Int)] 74)) rfl _ _ rfl X.heap.size (hb2.alloc hb2.size _).size _ (0 + 0) _ rfl (ho1.alloc _) (some ⟨w2.heap.size, 0, none⟩) 1 1 rfl (fun e => by cases e) [.string (strB f.nm), .slice xp f.dat.length xc, .int .i64 (f.sure : Int)] rfl (fun p hp j u hj => by cases hp; exact lit_at _ _ _ j u hj) (by simp [Value.oneCell']) (by omega) ?_; intro v2 w3 ho2 hg2 ha2; have hb3 := hgb.out _ _ _ (hb2.alloc hb2.size (.cells #[.string (strB f.nm), .slice xp f.dat.length xc, .int .i64 (f.sure : Int)] 74)) hg2 (fun z hz => (ho1.lt z hz).1); have r_w3 := hgr.out w3 hb3; have c_w3 := (rd_cells r_w3).1; obtain ⟨e0_w3, e1_w3, e2_w3⟩ := hBxH.out w3 hb3; go_wp2_with (at_builtin; refine wpList_appF w3 rfl _ _ rfl X.heap.size hb3.size _ (0 + 0 + 1) _ rfl ho2 none 0 0 rfl (fun _ => ⟨rfl, rfl⟩) [] rfl (fun p hp => by cases hp) (fun u hu => by cases hu) (by omega) ?_; intro v3 w4 ho3 hg3 ha3; have hb4 := hgb.out _ _ _ hb3 hg3 (fun z hz => (ho2.lt z hz).1); have r4 := hgr.out w4 hb4; obtain ⟨c4, -, -, -, -, fz4⟩ := rd_cells r4; have f40 := fz4 0; clear fz4; obtain ⟨p3, q3, hv3⟩ := own_lenB ho3; have hfi := hfin.out v3 w4 hb4 ho3; rw [hv3] at hfi ⊢; replace hfi := Hid.mk hfi))))
    go_end0
    exact ⟨rfl, hfi.out⟩
  obtain ⟨ga, hga⟩ : ∃ ga, a = some ⟨ga, 0, none⟩ := by
    obtain ⟨q1, ⟨e, hn⟩ | ⟨g, cap, cur, e, hb, r, -⟩⟩ := hLo
    · injection e with e; exact absurd e hane
    · injection e with e1 _ _
      exact ⟨g, e1⟩
  subst hga
  have hcell : Hid (∀ Y, Below X.heap.size X Y → ∀ j u, (ffV L)[j]? = some u → Y.cell? ⟨ga, j, none⟩ = some u) := ⟨fun Y hY j u hj => by
    have hjl : j < (ffV L).length := (List.getElem?_eq_some_iff.1 hj).1
    rw [ffV_len, hLl] at hjl
    exact (hY.cell (p := ⟨ga, j, none⟩) (hLo.lt ga rfl).2).trans ((hLo.cellAt j hjl).trans hj)⟩
  obtain ⟨ad, cp, hsl, had⟩ := slice_ff ga n c k hple hlc
  have h3c : Hid (∀ Y, Below X.heap.size X Y → ∀ j u, C3[j]? = some u → Y.cell? (ad.add j) = some u) := ⟨fun Y hY j u hj => by
    have hj2 := (List.getElem?_eq_some_iff.1 hj).1
    rw [had (by omega), Go.WideShapes.add_plain]
    exact hcell.out Y hY _ u (dk j u hj)⟩
  clear hLo hLx hLT hX hrow h hx hxo had
  go_enter Tryz.func39, Tryz.ntmps39
  go_wp2_with (first | (go_at_call 38; refine hpl.mono ?_; rintro e w1 ⟨rfl, hb1⟩; have r1 := hgr.out w1 hb1; have c01 := (rd_cells r1).1; have hs1 := hb1.size) | (at_builtin; refine wpList_appF w1 rfl _ _ rfl X.heap.size hs1 _ 0 [] rfl (World.ownsRow_nil _ _ _ _) (some ⟨ga, 0, none⟩) k c rfl (fun e => by cases e) C1 l1 (fun p hp j u hj => by cases hp; rw [Go.WideShapes.add_plain, Nat.zero_add]; exact hcell.out w1 hb1 j u (tk j u hj)) o1 (by omega) ?_; intro v1 w2 ho1 hg1 ha1; have hb2 := hgb.out _ _ _ hb1 hg1 (fun z hz => by cases hz); have r_w2 := hgr.out w2 hb2; have c_w2 := (rd_cells r_w2).1; obtain ⟨e0_w2, e1_w2, e2_w2⟩ := hBxH.out w2 hb2; go_wp2_with (at_builtin; refine wpList_appF (w2.alloc (.cells #[.string (strB f.nm), .slice xp f.dat.length xc, .int .i64 (f.sure : Int)] 74)) rfl _ _ rfl X.heap.size (hb2.alloc hb2.size _).size _ (0 + k) _ rfl (ho1.alloc _) (some ⟨w2.heap.size, 0, none⟩) 1 1 rfl (fun e => by cases e) [.string (strB f.nm), .slice xp f.dat.length xc, .int .i64 (f.sure : Int)] rfl (fun p hp j u hj => by cases hp; exact lit_at _ _ _ j u hj) (by simp [Value.oneCell']) (by omega) ?_; intro v2 w3 ho2 hg2 ha2; have hb3 := hgb.out _ _ _ (hb2.alloc hb2.size (.cells #[.string (strB f.nm), .slice xp f.dat.length xc, .int .i64 (f.sure : Int)] 74)) hg2 (fun z hz => (ho1.lt z hz).1); have r_w3 := hgr.out w3 hb3; have c_w3 := (rd_cells r_w3).1; obtain ⟨e0_w3, e1_w3, e2_w3⟩ := hBxH.out w3 hb3; go_wp2_with (at_builtin; refine wpList_appF w3 rfl _ _ rfl X.heap.size hb3.size _ (0 + k + 1) _ rfl ho2 (some ad) (n - k) cp rfl (fun e => by cases e) C3 l3 (fun p hp j u hj => by cases hp; exact h3c.out w3 hb3 j u hj) o3 (by omega) ?_; intro v3 w4 ho3 hg3 ha3; have hb4 := hgb.out _ _ _ hb3 hg3 (fun z hz => (ho2.lt z hz).1); have r4 := hgr.out w4 hb4; obtain ⟨c4, -, -, -, -, fz4⟩ := rd_cells r4; have f40 := fz4 0; clear fz4; rw [show 0 + k + 1 + (n - k) = n + 1 by omega] at ho3; obtain ⟨p3, q3, hv3⟩ := own_lenB ho3; have hfi := hfin.out v3 w4 hb4 ho3; rw [hv3] at hfi ⊢; replace hfi := Hid.mk hfi))))
  go_end0
  exact ⟨rfl, hfi.out⟩
end Go.Proofs.YthbojlbgjmecoaaGreat.DJ

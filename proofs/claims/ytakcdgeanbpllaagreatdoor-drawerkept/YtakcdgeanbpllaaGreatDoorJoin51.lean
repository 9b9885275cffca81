import Derived.Test.YtakcdgeanbpllaaGreatDoorJoin50
import Derived.Test.YtakcdgeanbpllaaGreatDoorJoin49
import Derived.Maps.AppendAt
/- FILES IN MEMORY OF THEIR OWN; Disk.Files. -/
namespace Go.Proofs.YtakcdgeanbpllaaGreatDoor.DJ
open Go.RowKit
set_option linter.constructorNameAsVariable false

def ffV (L : List (Fl × Value)) : List Value := L.flatMap fun x => [.string (strB x.1.nm), x.2, .int .i64 (x.1.sure : Int)]
theorem ffV_snoc (L : List (Fl × Value)) (r : Fl) (v : Value) : ffV (L ++ [(r, v)]) = ffV L ++ [.string (strB r.nm), v, .int .i64 (r.sure : Int)] := by unfold ffV; rw [List.flatMap_append]; rfl
theorem ffV_get : ∀ (L : List (Fl × Value)) (i : Nat) (h : i < L.length), (ffV L)[i * 3]? = some (.string (strB L[i].1.nm)) ∧ (ffV L)[i * 3 + 1]? = some L[i].2 ∧ (ffV L)[i * 3 + 2]? = some (.int .i64 (L[i].1.sure : Int))
  | d :: D, 0, _ => ⟨rfl, rfl, rfl⟩
  | d :: D, i + 1, h => by
    have := ffV_get D i (by simpa using h)
    rw [show (i + 1) * 3 = i * 3 + 3 by omega]
    exact this

/-- One file and its bytes. -/
structure FfB (w : World) (base : Nat) (x : Fl × Value) : Prop where
  byt : ∀ y ∈ x.1.dat, y < 256
  own : w.ownsRow base 5 1 x.2 x.1.dat.length (bysV x.1.dat)
def FfO (w : World) (base : Nat) (v : Value) (R : List Fl) : Prop := ∃ L : List (Fl × Value), L.map Prod.fst = R ∧ w.ownsRow base 45 3 v R.length (ffV L) ∧ ∀ x ∈ L, FfB w base x
theorem FfO.nil (w : World) (base : Nat) : FfO w base (.slice none 0 0) [] := ⟨[], rfl, World.ownsRow_nil _ _ _ _, fun x hx => by simp at hx⟩
theorem FfB.grS {S : Nat → Prop} {w w' : World} {base : Nat} {x : Fl × Value} (h : FfB w base x) (hg : GrS S w w') (hS : ∀ g cs, base ≤ g → w.heap[g]? = some (.cells cs 5 (0, 0)) → ¬ S g) : FfB w' base x :=
  ⟨h.byt, hg.own h.own (fun g e => by obtain ⟨q, cs, r⟩ := own_rowT h.own e; exact hS g cs q r)⟩
theorem FfO.later {w w' : World} {base : Nat} {v : Value} {R : List Fl} (h : FfO w base v R) (hb : Below w.heap.size w w') : FfO w' base v R := by
  obtain ⟨L, h1, h2, h3⟩ := h
  exact ⟨L, h1, own_later h2 hb, fun x hx => (h3 x hx).grS (S := fun _ => False) (.of_below hb) (fun _ _ _ _ h => h)⟩
theorem FfO.mono {w : World} {base base' : Nat} {v : Value} {R : List Fl} (h : FfO w base v R) (hb : base' ≤ base) : FfO w base' v R := by
  obtain ⟨L, h1, h2, h3⟩ := h
  exact ⟨L, h1, h2.mono hb, fun x hx => ⟨(h3 x hx).byt, (h3 x hx).own.mono hb⟩⟩
theorem ff_snoc {w w' : World} {base : Nat} {v v' bv : Value} {L : List (Fl × Value)} {r : Fl} (ho : w.ownsRow base 45 3 v L.length (ffV L)) (hL : ∀ x ∈ L, FfB w base x) (hr : FfB w base (r, bv)) (hg : w.grownBy w' v.ownBlock) (ho' : w'.ownsRow base 45 3 v' (L.length + 1) (ffV L ++ [.string (strB r.nm), bv, .int .i64 (r.sure : Int)])) : FfO w' base v' (L.map Prod.fst ++ [r]) := by
  have hG : GrS (fun k => v.ownBlock = some k) w w' := .of_grown' hg (fun k e => e)
  have hS : ∀ g cs, base ≤ g → w.heap[g]? = some (.cells cs 5 (0, 0)) → ¬ v.ownBlock = some g := fun g cs _ hc e => by
    obtain ⟨-, cs', r'⟩ := own_rowT ho e
    rw [hc] at r'
    simp at r'
  refine ⟨L ++ [(r, bv)], by simp, ?_, fun x hx => ?_⟩
  · rw [ffV_snoc, List.length_append, List.length_map]
    exact ho'
  · rcases List.mem_append.1 hx with hx | hx
    · exact (hL x hx).grS hG hS
    · rw [List.mem_singleton.1 hx]
      exact hr.grS hG hS
theorem FfO.len {w : World} {base : Nat} {v : Value} {R : List Fl} (h : FfO w base v R) : ∃ a c, v = .slice a R.length c ∧ (a = none → c = 0) ∧ R.length ≤ c ∧ ∀ p, a = some p → base ≤ p.block := by
  obtain ⟨L, h1, h2, h3⟩ := h
  obtain ⟨q1, ⟨rfl, h0⟩ | ⟨g, cap, cur, rfl, hb, r, h4, -⟩⟩ := h2
  · rw [h0]
    exact ⟨none, 0, rfl, fun _ => rfl, Nat.le_refl _, fun p e => by cases e⟩
  · exact ⟨_, _, rfl, fun e => (by cases e), by omega, fun p e => by cases e; exact hb⟩
theorem FfO.at_ {w : World} {base : Nat} {a : Option Addr} {n c : Nat} {R : List Fl} (h : FfO w base (.slice a n c) R) : FfAt w a R := by
  obtain ⟨L, rfl, h2, h3⟩ := h
  have h0 := h2
  obtain ⟨q1, ⟨e, hn⟩ | ⟨g, cap, cur, e, hb, r, -⟩⟩ := h0
  · exact .inl (List.length_eq_zero_iff.1 hn)
  · injection e with e1 e2 e3
    subst e1
    rw [e2] at h2
    refine .inr ⟨g, 0, rfl, (h2.lt g rfl).2, fun i hi => ?_⟩
    rw [List.length_map] at hi
    obtain ⟨g1, g2, g3⟩ := ffV_get L i hi
    have hl : (ffV L).length = (L.map Prod.fst).length * 3 := h2.1
    rw [List.length_map] at hl
    have hx := h3 L[i] (List.getElem_mem hi)
    obtain ⟨p, cc, hp⟩ := own_lenB hx.own
    have k1 := h2.cellAt (i * 3) (by rw [List.length_map]; omega)
    have k2 := h2.cellAt (i * 3 + 1) (by rw [List.length_map]; omega)
    have k3 := h2.cellAt (i * 3 + 2) (by rw [List.length_map]; omega)
    have ho := hx.own
    rw [hp] at ho
    rw [Nat.zero_add, List.getElem_map]
    refine ⟨k1.trans g1, ⟨p, cc, ?_, (own_pos ho).1, (own_pos ho).2.1, byts_of_own (n := L[i].1.dat.length) hx.byt ho⟩, k3.trans g3⟩
    rw [← hp]
    exact k2.trans g2

theorem infoFf : (Tryz.prog.info? 45).map (fun i => (i.zero, i.size, i.bytes)) = some (some (.agg #[.string "".toUTF8, .slice none 0 0, .int .i64 0]), 3, 48) := by kernel_rfl

set_option maxRecDepth 8000 in
set_option maxHeartbeats 1000000 in
theorem files_any {lo db : Nat} {S : Nat → Prop} {d : Dk} (w : World) (h : DiskAt w lo S db d) :
    Calls Tryz.prog 14 #[.pointer (some ⟨db, 0, none⟩)] w fun e w' => ∃ a c, e = .returned (.slice a d.fs.length c) ∧ FfO w' w.heap.size (.slice a d.fs.length c) d.fs ∧ Below w.heap.size w w' := by
  have hN := names_any w h
  have h40 : d.fs.length ≤ 40 := by obtain ⟨mb, D, fb, vv, h⟩ := h; exact h.ok.len
  go_enter Tryz.func14, Tryz.ntmps14
  go_wp2_with (go_at_call 34; refine hN.mono ?_; rintro e w2 ⟨v, rfl, hrow, hb2⟩; obtain ⟨p, c, rfl⟩ := own_lenB hrow)
  obtain ⟨mb, D, fb, vv, hL2⟩ := h.later hb2
  clear hN h
  obtain ⟨i0, hi5, hz0, hz1, hz2⟩ := info_parts infoFf
  have hI : Hid (∃ a c, (Value.slice none 0 0 = .slice a 0 c) ∧ FfO w2 w2.heap.size (.slice a 0 c) []) := ⟨none, 0, rfl, FfO.nil _ _⟩
  go_loopw [10, 3] (fun v u wr => ∃ i : Nat, i ≤ d.fs.length ∧ v = .int .i64 (i : Int) ∧ (∃ a c, u = .slice a i c ∧ FfO wr w2.heap.size (.slice a i c) (d.fs.take i)) ∧ Below w2.heap.size w2 wr) (fun v _ _ => d.fs.length - (intOf v).toNat)
  case atStart => exact ⟨0, Nat.zero_le _, rfl, hI.out, Below.refl _ _⟩
  case round =>
    clear hI
    obtain ⟨i, hi, rfl, ⟨ua, uc, rfl, hF⟩, hb⟩ := hrel
    by_cases hlt : i < d.fs.length
    · have hlt' : (i : Int) < (d.fs.length : Int) := by omega
      have hi0 : (0 : Int) ≤ (i : Int) := by omega
      obtain ⟨gp, hgp⟩ : ∃ gp, p = some ⟨gp, 0, none⟩ := by
        obtain ⟨-, ⟨e, h0⟩ | ⟨gg, cc, cur, e, -⟩⟩ := hrow
        · omega
        · injection e with e1
          exact ⟨gg, e1⟩
      subst hgp
      have hnm := (hb.cell (p := ⟨gp, i, none⟩) (World.block_lt_of_cell? _ _ (name_at hrow hlt rfl))).trans (name_at hrow hlt rfl)
      have hS : d.fs.take (i + 1) = d.fs.take i ++ [d.fs[i]] := List.take_succ_eq_append_getElem hlt
      have hin : d.fs[i] ∈ d.fs := List.getElem_mem hlt
      have htl : (d.fs.take i).length = i := by rw [List.length_take]; omega
      generalize d.fs[i] = f at *
      have hL := hL2.grS (T := fun _ => False) (.of_below hb) (fun _ _ h => h)
      obtain ⟨c0, -⟩ := hL.cells
      have hlk := hL.look hin
      have hFA := hL2.fil f hin
      obtain ⟨k0, k1, -, -⟩ := hFA.cells
      have hsiz := hL.ok.siz f hin
      have hbyt := hL.ok.byt f hin
      have hfl : fb f.nm < w2.heap.size := hL2.hi _ (hL2.Sfb _ hin)
      obtain ⟨pv, cv, hv⟩ := own_lenB hFA.dat
      have hFd := hFA.dat
      rw [hv] at k0 hFd
      generalize fb f.nm = b at *
      have hK := Hid.mk (fun X (hX : Below w2.heap.size w2 X) => And.intro ((hX.cell (p := ⟨b, 0, none⟩) hfl).trans k0) ((hX.cell (p := ⟨b, 1, none⟩) hfl).trans k1))
      have hby : Hid (∀ X, Below w2.heap.size w2 X → Byts X pv f.dat) := ⟨fun X hX => (byts_of_own (n := f.dat.length) hbyt hFd).later hX⟩
      have hC6 := Hid.mk (fun X (hX : Below w2.heap.size w2 X) => bclone_any pv cv (own_pos hFd).1 f.dat (Nat.le_trans hsiz (by decide)) X (hby.out X hX))
      have bd : Below w2.heap.size w2 wr.drew := below_step hb ((Below.refl _ _).drew)
      have bw : Below wr.heap.size wr wr.drew := (Below.refl _ _).drew
      have S0 := hK.out _ hb
      have S0' := hK.out _ bd
      have hbase : w2.heap.size ≤ wr.heap.size := hb.size
      replace hF := Hid.mk hF
      replace hbyt := Hid.mk hbyt
      replace hb := Hid.mk hb
      replace hrow := Hid.mk hrow
      clear hL hFA k0 k1 hsiz hFd hby
      generalize hsn : strB f.nm = sn at *
      replace hsn := Hid.mk hsn
      go_upto_region 6 with fail
      go_region_held3 (fun X => X.cell? ⟨b, 0, none⟩ = some (.slice pv f.dat.length cv) ∧ X.cell? ⟨b, 1, none⟩ = some (.int .i64 (f.sure : Int))) (with_reducible assumption) (first | (go_at_call 35; refine (hC6.out _ bd).mono ?_; rintro e w8 ⟨p8, c8, rfl, ho8, hb8⟩; have Q8 := below_step bw hb8; have A8 : Below w8.heap.size w8 (w8.alloc (.cells #[.string sn, .slice p8 f.dat.length c8, .int .i64 (f.sure : Int)] 45)) := (Below.refl _ _).alloc (Nat.le_refl _) _; have D8 := below_step bd hb8; have D9 := below_step D8 A8; have S8 := hK.out _ D8; have S9 := hK.out _ D9; obtain ⟨L, hLm, hoL, hbL⟩ := (hF.out.later Q8).later A8; rw [htl] at hoL; have hR8 := Hid.mk (FfB.mk (x := (f, .slice p8 f.dat.length c8)) hbyt.out (own_later (ho8.mono hbase) A8)); replace hbL := Hid.mk hbL; replace hLm := Hid.mk hLm) | (refine step_append_own (P := Tryz.prog) _ rfl _ _ 42 rfl w2.heap.size 45 i0 _ 3 48 Tryz.underlying42 hi5 hz0 hz1 hz2 rfl (by decide) _ i (ffV L) rfl hoL ⟨w8.heap.size, 0, none⟩ 1 1 [.string sn, .slice p8 f.dat.length c8, .int .i64 (f.sure : Int)] rfl rfl (lit_at w8 _ _) (by simp [Value.oneCell']) (by unfold maxLen; omega) (by omega) D9.size ?_; intro v' w9 hown' hgrow; have b9 := Hid.mk (D9.trans ((GrS.of_grown' (S := fun k => (Value.slice ua i uc).ownBlock = some k) hgrow (fun k e => e)).below D9.size (fun k e => (own_rowT hoL e).1))); have S10 := hK.out _ b9.out))
      have hl9 : L.length = i := by rw [← htl, ← hLm.out, List.length_map]
      have hrc9 := ff_snoc (r := f) (by rw [hl9]; exact hoL) hbL.out hR8.out hgrow (by rw [hl9, hsn.out]; exact hown')
      rw [hLm.out, ← hS] at hrc9
      have hrow9 := own_lenB hown'
      obtain ⟨a9, c9, rfl⟩ := hrow9
      replace hrc9 := Hid.mk hrc9
      clear hoL hown' hgrow S0 S0' S8 S9 S10 hS htl hlk hl9 hnm
      go_wp2
      go_roundw
      case rel => exact ⟨i + 1, by omega, by first | rfl | go_num, ⟨a9, c9, rfl, hrc9.out⟩, b9.out⟩
      case measure => simp [intOf]; omega
    · have hlt' : ¬ (i : Int) < (d.fs.length : Int) := by omega
      obtain rfl : i = d.fs.length := by omega
      rw [List.take_length] at hF
      replace hF := Hid.mk hF
      go_wp2
      go_ret
      exact ⟨ua, uc, rfl, hF.out.mono hb2.size, below_step hb2 hb⟩
end Go.Proofs.YtakcdgeanbpllaaGreatDoor.DJ


/- What DrawerCut lays, reckoned. -/
namespace Go.Proofs.YtakcdgeanbpllaaGreatDoor.DJ
open Go.RowKit

/-- The records that DrawerCut puts. -/
def cutR (bs : List (List Nat)) (i : Nat) : List Rec := (bs.take i).mapIdx fun k b => (k, b.take 300)
theorem cutR_zero (bs : List (List Nat)) : cutR bs 0 = [] := rfl
theorem cutR_len (bs : List (List Nat)) {i : Nat} (h : i ≤ bs.length) : (cutR bs i).length = i := by unfold cutR; rw [List.length_mapIdx, List.length_take]; omega
theorem cutR_step (bs : List (List Nat)) {i : Nat} (h : i < bs.length) : cutR bs (i + 1) = cutR bs i ++ [(i, bs[i].take 300)] := by
  unfold cutR
  rw [List.take_succ_eq_append_getElem h, List.mapIdx_append]
  simp only [List.mapIdx_cons, List.mapIdx_nil, List.length_take]
  rw [Nat.min_eq_left (Nat.le_of_lt h)]
  simp
theorem cutR_mem {bs : List (List Nat)} {i : Nat} {r : Rec} (h : r ∈ cutR bs i) : r.1 < i ∧ r.2.length ≤ 300 ∧ ∃ b ∈ bs, r.2 = b.take 300 := by
  unfold cutR at h
  obtain ⟨k, hk, rfl⟩ := List.mem_mapIdx.1 h
  rw [List.length_take] at hk
  refine ⟨by omega, by simp only [List.length_take]; omega, _, List.mem_of_mem_take (List.getElem_mem _), rfl⟩

/-- How long the journal is then. -/
def szR (R : List Rec) : Nat := 18 + (R.map fun r => 18 + r.2.length).sum
theorem szR_snoc (R : List Rec) (r : Rec) : szR (R ++ [r]) = szR R + 18 + r.2.length := by unfold szR; simp; omega
theorem encR_sz (sum : Nat) (R : List Rec) : ∀ k, (encR sum k R).length = (R.map fun r => 18 + r.2.length).sum := by
  induction R with
  | nil => intro k; rfl
  | cons r R ih =>
    intro k
    simp only [encR, List.length_append, List.map_cons, List.sum_cons, piece_len, ih]
    omega
theorem enc_sz (sum : Nat) (R : List Rec) : (enc sum [] R).length = szR R := by rw [enc_len, encR_sz]; simp [szR]
theorem szR_le {R : List Rec} (h : ∀ r ∈ R, r.2.length ≤ 300) : szR R ≤ 18 + R.length * 318 := by
  unfold szR
  have : (R.map fun r => 18 + r.2.length).sum ≤ R.length * 318 := by
    induction R with
    | nil => simp
    | cons r R ih =>
      have := ih (fun x hx => h x (List.mem_cons_of_mem _ hx))
      have := h r (List.mem_cons_self ..)
      simp only [List.map_cons, List.sum_cons, List.length_cons]
      omega
  omega
theorem szR_mono (R : List Rec) {a b : Nat} (h : a ≤ b) : szR (R.take a) ≤ szR (R.take b) := by
  unfold szR
  have : R.take a = (R.take b).take a := by rw [List.take_take, Nat.min_eq_left h]
  rw [this]
  have : ∀ (L : List Rec) n, ((L.take n).map fun r => 18 + r.2.length).sum ≤ (L.map fun r => 18 + r.2.length).sum := by
    intro L
    induction L with
    | nil => intro n; simp
    | cons r L ih =>
      intro n
      cases n with
      | zero => simp
      | succ n =>
        have := ih n
        simp only [List.take_succ_cons, List.map_cons, List.sum_cons]
        omega
  have := this (R.take b) a
  omega
theorem szR_take (R : List Rec) {n : Nat} (h : n < R.length) : szR (R.take (n + 1)) = szR (R.take n) + 18 + R[n].2.length := by rw [List.take_succ_eq_append_getElem h, szR_snoc]

theorem put_cut {sum : Nat} {R : List Rec} {d : Dk} {r : Rec} (hB : Base sum [] R 1 d.fs) (hC : Calm d) (hr : r.2.length ≤ 300) (hR : szR R ≤ 1000000) :
    ∃ d', putR d sum 1 R.length false r = (0, d', R.length + 1, false) ∧ Base sum [] (R ++ [r]) 1 d'.fs ∧ Calm d' := by
  obtain ⟨h1, h2, h3⟩ := put_on (r := r) hB (by omega) (by rw [enc_sz]; omega) (u := none) (a := d.after) (c := 0) ⟨hC.1, hC.2.1, rfl, hC.2.2⟩ (.inl rfl) (fun n e => by cases e)
  exact ⟨_, putR_ok (by omega) h1, h2, h3.up, h3.units, h3.calls⟩

theorem step_append_at {P : Program} {ops : Array Oper} {o : Oper} {a : Act} (w : World) {K : Act → World → Prop} {Q : Exit → Act → World → Prop} {E : Prop}
    (hg : o.guard = none) (s x : Operand) (t : TypeId) (ho : o.op = .call { callee := .builtin .append, args := #[s, x], argTypes := #[t, t] })
    (base : Nat) (e : TypeId) (i : TypeInfo) (z : Value) (size bytes : Nat) (ht : P.underlying t = some (.slice e)) (hi : P.info? e = some i) (hz : i.zero = some z)
    (hsize : i.size = size) (hby : i.bytes = bytes) (hzs : z.cells.size = size) (hsz : 0 < size)
    (v : Value) (n : Nat) (xs : List Value) (hs : a.eval s = v) (hown : w.ownsRow base e size v n xs)
    (ad : Addr) (m c : Nat) (news : List Value) (hx : a.eval x = .slice (some ad) m c) (hl : news.length = m * size) (hnews : ∀ j u, news[j]? = some u → w.cell? (ad.add j) = some u) (h1 : ∀ u ∈ news, u.oneCell' = true)
    (h63 : n + m ≤ maxLen) (hbytes : (n + m) * bytes ≤ 140737488355328) (hbase : base ≤ w.heap.size)
    (h : ∀ v' w', w'.ownsRow base e size v' (n + m) (xs ++ news) → w.grownBy w' v.ownBlock → (v'.ownBlock = v.ownBlock ∨ v'.ownBlock = some w.heap.size) → K (a.put o.dst v') w') : if Region.wanted o (yielded ops a.tmps) = true then Oper.wp P o a w K Q else E := by
  rw [if_pos (by simp [Region.wanted, hg])]
  obtain ⟨v', w', hr, h2, h3, h4, h5⟩ := run_append_own_at (P := P) w base t o.type e i z size bytes ht hi hz hsize hby hzs hsz v n xs hown ad m c news hl hnews h1 h63 hbytes hbase
  unfold Oper.wp execOp
  simp only [ho, resolve, invoke, builtin, Sem.run_bind, Sem.run_pure, Result.andThen_ok, List.map_toArray, List.map_cons, List.map_nil, hs, hx, hr]
  exact h v' w' h2 h3 h5
end Go.Proofs.YtakcdgeanbpllaaGreatDoor.DJ


/- DrawerCut's state while it puts. -/
namespace Go.Proofs.YtakcdgeanbpllaaGreatDoor.DJ
open Go.RowKit

/-- Records in memory of their own, in the blocks T. -/
def RcX (W : World) (lo : Nat) (T : Nat → Prop) (v : Value) (R : List Rec) : Prop := ∃ L : List (Rec × Value), L.map Prod.fst = R ∧ W.ownsRow lo 38 2 v R.length (rcV L) ∧ (∀ g, v.ownBlock = some g → T g) ∧ ∀ x ∈ L, RcB W lo x ∧ ∀ g, x.2.ownBlock = some g → T g
theorem RcX.rc {W : World} {lo : Nat} {T : Nat → Prop} {v : Value} {R : List Rec} (h : RcX W lo T v R) : RcO W lo v R := by
  obtain ⟨L, h1, h2, -, h3⟩ := h
  exact ⟨L, h1, h2, fun x hx => (h3 x hx).1⟩
theorem RcX.nil (W : World) (lo : Nat) (T : Nat → Prop) : RcX W lo T (.slice none 0 0) [] := ⟨[], rfl, World.ownsRow_nil _ _ _ _, fun g e => (by cases e), fun x hx => (by simp at hx)⟩
theorem RcX.grS {W W' : World} {lo : Nat} {T U : Nat → Prop} {v : Value} {R : List Rec} (h : RcX W lo T v R) (hg : GrS U W W') (hU : ∀ k, T k → ¬ U k) : RcX W' lo T v R := by
  obtain ⟨L, h1, h2, h3, h4⟩ := h
  exact ⟨L, h1, hg.own h2 (fun g e => hU g (h3 g e)), h3, fun x hx => ⟨⟨(h4 x hx).1.kd, (h4 x hx).1.byt, hg.own (h4 x hx).1.own (fun g e => hU g ((h4 x hx).2 g e))⟩, (h4 x hx).2⟩⟩
theorem RcX.more {W : World} {lo : Nat} {T T' : Nat → Prop} {v : Value} {R : List Rec} (h : RcX W lo T v R) (hT : ∀ k, T k → T' k) : RcX W lo T' v R := by
  obtain ⟨L, h1, h2, h3, h4⟩ := h
  exact ⟨L, h1, h2, fun g e => hT g (h3 g e), fun x hx => ⟨(h4 x hx).1, fun g e => hT g ((h4 x hx).2 g e)⟩⟩

/-- The ends of the pieces. -/
def endV (R : List Rec) : List Value := (List.range R.length).map fun k => .int .i64 (szR (R.take (k + 1)) : Int)
theorem endV_snoc (R : List Rec) (r : Rec) : endV (R ++ [r]) = endV R ++ [.int .i64 (szR (R ++ [r]) : Int)] := by
  unfold endV
  rw [List.length_append, List.length_singleton, List.range_succ, List.map_append]
  congr 1
  · refine List.map_congr_left fun k hk => ?_
    rw [List.mem_range] at hk
    rw [List.take_append_of_le_length (by omega)]
  · simp only [List.map_cons, List.map_nil]
    rw [List.take_of_length_le (by simp)]
theorem endV_len (R : List Rec) : (endV R).length = R.length := by simp [endV]
theorem endV_get (R : List Rec) {k : Nat} (h : k < R.length) : (endV R)[k]? = some (.int .i64 (szR (R.take (k + 1)) : Int)) := by simp [endV, h]

/-- D: on the disk; R: among the records; E: whose ends are told. -/
structure CutS (lo : Nat) (S T : Nat → Prop) (ub db wb sum : Nat) (d : Dk) (D R E : List Rec) (ev : Value) (W : World) : Prop where
  disk : DiskAt W lo S db d
  bas : Base sum [] D 1 d.fs
  calm : Calm d
  drw : DwAt W wb db sum 1 D.length false
  row : ∃ sv rv, W.heap[ub]? = some (wdRow db (some ⟨wb, 0, none⟩) sum sv rv (.slice none 0 0) (.slice none 0 0) false) ∧ RcX W lo T rv R
  ends : W.ownsRow lo 3 1 ev E.length (endV E)
  eT : ∀ g, ev.ownBlock = some g → T g
  nwb : ¬ S wb
  nub : ¬ S ub
  ne : wb ≠ ub
  lwb : lo ≤ wb
  lub : lo ≤ ub
  TS : ∀ k, T k → ¬ S k ∧ k ≠ wb ∧ k ≠ ub ∧ lo ≤ k ∧ k < W.heap.size
section
variable {lo : Nat} {S S' T : Nat → Prop} {ub db wb sum : Nat} {d d' : Dk} {D R E : List Rec} {ev : Value} {W X : World}
theorem CutS.c (h : CutS lo S T ub db wb sum d D R E ev W) : W.cell? ⟨ub, 0, none⟩ = some (.pointer (some ⟨db, 0, none⟩)) ∧ W.cell? ⟨ub, 1, none⟩ = some (.pointer (some ⟨wb, 0, none⟩)) ∧ W.cell? ⟨ub, 2, none⟩ = some (.int .u32 (sum : Int)) := by
  obtain ⟨sv, rv, hr, -⟩ := h.row
  obtain ⟨c0, c1, c2, -⟩ := wd_cells hr
  exact ⟨c0, c1, c2⟩
theorem CutS.ult (h : CutS lo S T ub db wb sum d D R E ev W) : ub < W.heap.size := by
  obtain ⟨sv, rv, hr, -⟩ := h.row
  exact wd_lt hr
theorem CutS.later (h : CutS lo S T ub db wb sum d D R E ev W) (hX : Below W.heap.size W X) : CutS lo S T ub db wb sum d D R E ev X where
  disk := h.disk.later hX
  bas := h.bas
  calm := h.calm
  drw := h.drw.later hX
  row := by
    obtain ⟨sv, rv, hr, hx⟩ := h.row
    exact ⟨sv, rv, (hX.block _ (wd_lt hr)).trans hr, hx.grS (U := fun _ => False) (.of_below hX) (fun _ _ h => h)⟩
  ends := own_later h.ends hX
  eT := h.eT
  nwb := h.nwb
  nub := h.nub
  ne := h.ne
  lwb := h.lwb
  lub := h.lub
  TS := fun k hk => by
    obtain ⟨a, b, c, d, e⟩ := h.TS k hk
    exact ⟨a, b, c, d, Nat.lt_of_lt_of_le e hX.size⟩
theorem CutS.put (h : CutS lo S T ub db wb sum d D R E ev W) {r : Rec} (hD : DiskAt X lo S' db d') (hw : DwAt X wb db sum 1 (D.length + 1) false) (hv : Dw S wb W S' X) (hB : Base sum [] (D ++ [r]) 1 d'.fs) (hC : Calm d') : CutS lo S' T ub db wb sum d' (D ++ [r]) R E ev X := by
  obtain ⟨sv, rv, hr, hx⟩ := h.row
  have hl := wd_lt hr
  have hwl := h.drw.lt
  have hT : ∀ k, T k → ¬ (S k ∨ k = wb) := fun k hk e => by
    obtain ⟨a, b, -⟩ := h.TS k hk
    exact e.elim a b
  have hS' : ∀ k, k < W.heap.size → ¬ S k → ¬ S' k := fun k hk hn e => by
    rcases hv.sub _ e with e | e
    · exact hn e
    · omega
  refine ⟨hD, hB, hC, by rw [List.length_append]; exact hw, ⟨sv, rv, (hv.gr.block ub hl (fun e => e.elim h.nub (fun e => h.ne e.symm))).trans hr, hx.grS hv.gr hT⟩, hv.gr.own h.ends (fun g e => hT g (h.eT g e)), h.eT, hS' _ hwl h.nwb, hS' _ hl h.nub, h.ne, h.lwb, h.lub, fun k hk => ?_⟩
  obtain ⟨a, b, c, e, f⟩ := h.TS k hk
  exact ⟨hS' k f a, b, c, e, Nat.lt_of_lt_of_le f hv.gr.size⟩
theorem CutS.bel (h : CutS lo S T ub db wb sum d D R E ev W) (hlo : lo ≤ W.heap.size) (hv : Dw S wb W S' X) : Below lo W X := hv.gr.below hlo (fun k hk => by
  rcases hk with hk | rfl
  · exact (h.disk.low k hk).1
  · exact h.lwb)
theorem own_ltT {W : World} {base n size : Nat} {e : TypeId} {v : Value} {xs : List Value} {g : Nat} (h : W.ownsRow base e size v n xs) (hg : v.ownBlock = some g) : base ≤ g ∧ g < W.heap.size := by
  obtain ⟨q, cs, r⟩ := own_rowT h hg
  exact ⟨q, (Array.getElem?_eq_some_iff.1 r).1⟩
theorem CutS.grow (h : CutS lo S T ub db wb sum d D R E ev W) {sv rv : Value} (hr : W.heap[ub]? = some (wdRow db (some ⟨wb, 0, none⟩) sum sv rv (.slice none 0 0) (.slice none 0 0) false)) {L : List (Rec × Value)} (hL : L.map Prod.fst = R) (ho : W.ownsRow lo 38 2 rv R.length (rcV L)) (hvT : ∀ g, rv.ownBlock = some g → T g) (hx : ∀ x ∈ L, RcB W lo x ∧ ∀ g, x.2.ownBlock = some g → T g)
    {kd : Nat} {b : List Nat} {bv : Value} (hb : RcB W lo ((kd, b), bv)) (hbn : ∀ g, bv.ownBlock = some g → ¬ S g ∧ g ≠ wb ∧ g ≠ ub) {v' : Value} {w9 : World} (hg : W.grownBy w9 rv.ownBlock) (ho' : w9.ownsRow lo 38 2 v' (R.length + 1) (rcV L ++ [.int .u8 (kd : Int), bv])) (hat : v'.ownBlock = rv.ownBlock ∨ v'.ownBlock = some W.heap.size) (hlo : lo ≤ W.heap.size) :
    w9.heap[ub]? = some (wdRow db (some ⟨wb, 0, none⟩) sum sv rv (.slice none 0 0) (.slice none 0 0) false) ∧ (∃ T', CutS lo S T' ub db wb sum d D (R ++ [(kd, b)]) E ev (w9.setCell ⟨ub, 4, none⟩ v')) ∧ Below lo W (w9.setCell ⟨ub, 4, none⟩ v') := by
  have G : GrS (fun k => rv.ownBlock = some k) W w9 := .of_grown' hg (fun k e => e)
  have G' := grS_set w9 ub 4 v'
  have GU : GrS (fun k => rv.ownBlock = some k ∨ k = ub) W (w9.setCell ⟨ub, 4, none⟩ v') := (G.mono (fun _ _ e => .inl e)).trans (G'.mono (fun _ _ e => .inr e))
  have nS : ∀ k, rv.ownBlock = some k → ¬ S k ∧ k ≠ wb ∧ k ≠ ub := fun k e => ⟨(h.TS k (hvT k e)).1, (h.TS k (hvT k e)).2.1, (h.TS k (hvT k e)).2.2.1⟩
  have hr9 := (G.block ub (wd_lt hr) (fun e => (nS _ e).2.2 rfl)).trans hr
  have hS := h.disk.low
  have hwl := h.drw.lt
  have hul := wd_lt hr
  have hne : ∀ x ∈ L, ∀ g, x.2.ownBlock = some g → rv.ownBlock ≠ some g := fun x hxm g e e' => by
    obtain ⟨-, cs, r1⟩ := own_rowT (hx x hxm).1.own e
    obtain ⟨-, cs', r2⟩ := own_rowT ho e'
    rw [r1] at r2
    simp at r2
  have hnb : ∀ g, bv.ownBlock = some g → rv.ownBlock ≠ some g := fun g e e' => by
    obtain ⟨-, cs, r1⟩ := own_rowT hb.own e
    obtain ⟨-, cs', r2⟩ := own_rowT ho e'
    rw [r1] at r2
    simp at r2
  have hne2 : ∀ g, ev.ownBlock = some g → rv.ownBlock ≠ some g := fun g e e' => by
    obtain ⟨-, cs, r1⟩ := own_rowT h.ends e
    obtain ⟨-, cs', r2⟩ := own_rowT ho e'
    rw [r1] at r2
    simp at r2
  have hvn : ∀ g, v'.ownBlock = some g → ¬ S g ∧ g ≠ wb ∧ g ≠ ub := fun g e => by
    rcases hat with a | a
    · exact nS g (a ▸ e)
    · rw [a] at e
      obtain rfl := Option.some.inj e
      exact ⟨fun e => by have := (hS _ e).2; omega, by omega, by omega⟩
  refine ⟨hr9, ⟨fun k => T k ∨ bv.ownBlock = some k ∨ v'.ownBlock = some k, ⟨(h.disk.grS G (fun k hk e => (nS k e).1 hk)).grS G' (fun k hk e => h.nub (e ▸ hk)), h.bas, h.calm, (h.drw.grS G (fun e => (nS _ e).2.1 rfl)).grS G' h.ne, ⟨sv, v', heap_setCell_same _ _ 4 _ _ _ hr9, L ++ [((kd, b), bv)], by rw [List.map_append, hL]; rfl, ?_, fun g e => .inr (.inr e), fun x hxm => ?_⟩, GU.own h.ends (fun g e e' => e'.elim (hne2 g e) (fun e' => (h.TS g (h.eT g e)).2.2.1 e')), fun g e => .inl (h.eT g e), h.nwb, h.nub, h.ne, h.lwb, h.lub, fun k hk => ?_⟩⟩, GU.below hlo (fun k e => e.elim (fun e => (own_ltT ho e).1) (fun e => e ▸ h.lub))⟩
  · rw [rcV_snoc, List.length_append]
    exact G'.own ho' (fun g e e' => (hvn g e).2.2 e')
  · rcases List.mem_append.1 hxm with hxm | hxm
    · obtain ⟨p1, p2⟩ := hx x hxm
      exact ⟨⟨p1.kd, p1.byt, GU.own p1.own (fun g e e' => e'.elim (hne x hxm g e) (fun e' => (h.TS g (p2 g e)).2.2.1 e'))⟩, fun g e => .inl (p2 g e)⟩
    · rw [List.mem_singleton.1 hxm]
      exact ⟨⟨hb.kd, hb.byt, GU.own hb.own (fun g e e' => e'.elim (hnb g e) (fun e' => (hbn g e).2.2 e'))⟩, fun g e => .inr (.inl e)⟩
  · have hz := GU.size
    rcases hk with hk | hk | hk
    · obtain ⟨a, b, c, e, f⟩ := h.TS k hk
      exact ⟨a, b, c, e, by omega⟩
    · obtain ⟨a, b, c⟩ := hbn k hk
      obtain ⟨q1, q2⟩ := own_ltT hb.own hk
      exact ⟨a, b, c, q1, by omega⟩
    · obtain ⟨a, b, c⟩ := hvn k hk
      obtain ⟨q1, q2⟩ := own_ltT ho' hk
      exact ⟨a, b, c, q1, by rw [show (w9.setCell ⟨ub, 4, none⟩ v').heap.size = w9.heap.size by simp]; exact q2⟩
theorem CutS.tell (h : CutS lo S T ub db wb sum d D R E ev W) {r : Rec} {v' : Value} {w9 : World} (hg : W.grownBy w9 ev.ownBlock) (ho' : w9.ownsRow lo 3 1 v' (E.length + 1) (endV E ++ [.int .i64 (szR (E ++ [r]) : Int)])) (hat : v'.ownBlock = ev.ownBlock ∨ v'.ownBlock = some W.heap.size) (hlo : lo ≤ W.heap.size) :
    (∃ T', CutS lo S T' ub db wb sum d D R (E ++ [r]) v' w9) ∧ Below lo W w9 := by
  have G : GrS (fun k => ev.ownBlock = some k) W w9 := .of_grown' hg (fun k e => e)
  have nS : ∀ k, ev.ownBlock = some k → ¬ S k ∧ k ≠ wb ∧ k ≠ ub := fun k e => ⟨(h.TS k (h.eT k e)).1, (h.TS k (h.eT k e)).2.1, (h.TS k (h.eT k e)).2.2.1⟩
  obtain ⟨sv, rv, hr, L, hL, ho, hvT, hx⟩ := h.row
  have hS := h.disk.low
  have hwl := h.drw.lt
  have hul := wd_lt hr
  have n1 : ∀ (t : TypeId) (n size : Nat) (v : Value) (xs : List Value), t ≠ 3 → W.ownsRow lo t size v n xs → ∀ g, v.ownBlock = some g → ev.ownBlock ≠ some g := fun t n size v xs ht hv g e e' => by
    obtain ⟨-, cs, r1⟩ := own_rowT hv e
    obtain ⟨-, cs', r2⟩ := own_rowT h.ends e'
    rw [r1] at r2
    simp at r2
    exact ht r2.2
  have hvn : ∀ g, v'.ownBlock = some g → ¬ S g ∧ g ≠ wb ∧ g ≠ ub := fun g e => by
    rcases hat with a | a
    · exact nS g (a ▸ e)
    · rw [a] at e
      obtain rfl := Option.some.inj e
      exact ⟨fun e => by have := (hS _ e).2; omega, by omega, by omega⟩
  refine ⟨⟨fun k => T k ∨ v'.ownBlock = some k, ⟨h.disk.grS G (fun k hk e => (nS k e).1 hk), h.bas, h.calm, h.drw.grS G (fun e => (nS _ e).2.1 rfl), ⟨sv, rv, (G.block ub hul (fun e => (nS _ e).2.2 rfl)).trans hr, L, hL, G.own ho (n1 _ _ _ _ _ (by decide) ho), fun g e => .inl (hvT g e), fun x hxm => ⟨⟨(hx x hxm).1.kd, (hx x hxm).1.byt, G.own (hx x hxm).1.own (n1 _ _ _ _ _ (by decide) (hx x hxm).1.own)⟩, fun g e => .inl ((hx x hxm).2 g e)⟩⟩, by rw [endV_snoc, List.length_append]; exact ho', fun g e => .inr e, h.nwb, h.nub, h.ne, h.lwb, h.lub, fun k hk => ?_⟩⟩, G.below hlo (fun k e => (own_ltT h.ends e).1)⟩
  have hz := G.size
  rcases hk with hk | hk
  · obtain ⟨a, b, c, e, f⟩ := h.TS k hk
    exact ⟨a, b, c, e, by omega⟩
  · obtain ⟨a, b, c⟩ := hvn k hk
    obtain ⟨q1, q2⟩ := own_ltT ho' hk
    exact ⟨a, b, c, q1, q2⟩
end
end Go.Proofs.YtakcdgeanbpllaaGreatDoor.DJ


/- DrawerKept's state. -/
namespace Go.Proofs.YtakcdgeanbpllaaGreatDoor.DJ
open Go.RowKit

/-- Bytes in memory of their own, in the blocks T. -/
def BytX (W : World) (lo : Nat) (T : Nat → Prop) (v : Value) (s : List Nat) : Prop := (∀ x ∈ s, x < 256) ∧ W.ownsRow lo 5 1 v s.length (bysV s) ∧ ∀ g, v.ownBlock = some g → T g
theorem BytX.grS {W W' : World} {lo : Nat} {T U : Nat → Prop} {v : Value} {s : List Nat} (h : BytX W lo T v s) (hg : GrS U W W') (hU : ∀ k, T k → ¬ U k) : BytX W' lo T v s := ⟨h.1, hg.own h.2.1 (fun g e => hU g (h.2.2 g e)), h.2.2⟩
theorem BytX.more {W : World} {lo : Nat} {T T' : Nat → Prop} {v : Value} {s : List Nat} (h : BytX W lo T v s) (hT : ∀ k, T k → T' k) : BytX W lo T' v s := ⟨h.1, h.2.1, fun g e => hT g (h.2.2 g e)⟩
theorem BytX.nil (W : World) (lo : Nat) (T : Nat → Prop) : BytX W lo T (.slice none 0 0) [] := ⟨fun x hx => (by simp at hx), World.ownsRow_nil _ _ _ _, fun g e => (by cases e)⟩
theorem BytX.len {W : World} {lo : Nat} {T : Nat → Prop} {v : Value} {s : List Nat} (h : BytX W lo T v s) : ∃ a c, v = .slice a s.length c ∧ Byts W a s := by
  obtain ⟨a, c, rfl⟩ := own_lenB h.2.1
  exact ⟨a, c, rfl, byts_of_own (n := s.length) h.1 h.2.1⟩

/-- The record in flight, if there is one. -/
def LatX (W : World) (lo : Nat) (T : Nat → Prop) (v : Value) : Option Rec → Prop
  | none => v = .slice none 0 0
  | some r => r.1 < 256 ∧ ∃ g x, v = .slice (some ⟨g, 0, none⟩) 1 1 ∧ T g ∧ W.heap[g]? = some (.cells #[.int .u8 (r.1 : Int), x] 38 (0, 0)) ∧ BytX W lo T x r.2
/-- The summary in flight. -/
def FolX (W : World) (lo : Nat) (T : Nat → Prop) (v : Value) : Option (List Nat) → Prop
  | none => v = .slice none 0 0
  | some t => ∃ g x, v = .slice (some ⟨g, 0, none⟩) 1 1 ∧ T g ∧ W.heap[g]? = some (.cells #[x] 23 (0, 0)) ∧ BytX W lo T x t
theorem LatX.grS {W W' : World} {lo : Nat} {T U : Nat → Prop} {v : Value} {L : Option Rec} (h : LatX W lo T v L) (hg : GrS U W W') (hU : ∀ k, T k → ¬ U k) : LatX W' lo T v L := by
  cases L with
  | none => exact h
  | some r =>
    obtain ⟨h0, g, x, h1, h2, h3, h4⟩ := h
    exact ⟨h0, g, x, h1, h2, (hg.block g (Array.getElem?_eq_some_iff.1 h3).1 (hU g h2)).trans h3, h4.grS hg hU⟩
theorem FolX.grS {W W' : World} {lo : Nat} {T U : Nat → Prop} {v : Value} {F : Option (List Nat)} (h : FolX W lo T v F) (hg : GrS U W W') (hU : ∀ k, T k → ¬ U k) : FolX W' lo T v F := by
  cases F with
  | none => exact h
  | some t =>
    obtain ⟨g, x, h1, h2, h3, h4⟩ := h
    exact ⟨g, x, h1, h2, (hg.block g (Array.getElem?_eq_some_iff.1 h3).1 (hU g h2)).trans h3, h4.grS hg hU⟩
theorem LatX.more {W : World} {lo : Nat} {T T' : Nat → Prop} {v : Value} {L : Option Rec} (h : LatX W lo T v L) (hT : ∀ k, T k → T' k) : LatX W lo T' v L := by
  cases L with
  | none => exact h
  | some r =>
    obtain ⟨h0, g, x, h1, h2, h3, h4⟩ := h
    exact ⟨h0, g, x, h1, hT g h2, h3, h4.more hT⟩
theorem FolX.more {W : World} {lo : Nat} {T T' : Nat → Prop} {v : Value} {F : Option (List Nat)} (h : FolX W lo T v F) (hT : ∀ k, T k → T' k) : FolX W lo T' v F := by
  cases F with
  | none => exact h
  | some t =>
    obtain ⟨g, x, h1, h2, h3, h4⟩ := h
    exact ⟨g, x, h1, hT g h2, h3, h4.more hT⟩
theorem LatX.len {W : World} {lo : Nat} {T : Nat → Prop} {v : Value} {L : Option Rec} (h : LatX W lo T v L) : ∃ a c, v = .slice a L.toList.length c ∧ RcAt W a L.toList := by
  cases L with
  | none => exact ⟨none, 0, h, fun r hr => (by simp at hr), .inl rfl⟩
  | some r =>
    obtain ⟨h0, g, x, rfl, h2, h3, h4⟩ := h
    obtain ⟨a, c, rfl, hB⟩ := h4.len
    refine ⟨_, _, rfl, fun y hy => ?_, .inr ⟨g, 0, rfl, (Array.getElem?_eq_some_iff.1 h3).1, fun i hi => ?_⟩⟩
    · rw [List.mem_singleton.1 hy]
      exact h0
    · obtain rfl : i = 0 := by simp at hi; omega
      exact ⟨cell_of_row _ _ 0 _ _ _ h3, a, c, cell_of_row _ _ 1 _ _ _ h3, hB⟩
theorem FolX.len {W : World} {lo : Nat} {T : Nat → Prop} {v : Value} {F : Option (List Nat)} (h : FolX W lo T v F) : ∃ a c, v = .slice a F.toList.length c ∧ (F.toList = [] ∨ ∃ t f o p c', F.toList = [t] ∧ a = some ⟨f, o, none⟩ ∧ W.cell? ⟨f, o, none⟩ = some (.slice p t.length c') ∧ Byts W p t) := by
  cases F with
  | none => exact ⟨none, 0, h, .inl rfl⟩
  | some t =>
    obtain ⟨g, x, rfl, h2, h3, h4⟩ := h
    obtain ⟨a, c, rfl, hB⟩ := h4.len
    exact ⟨_, _, rfl, .inr ⟨t, g, 0, a, c, rfl, rfl, cell_of_row _ _ 0 _ _ _ h3, hB⟩⟩

/-- The law's own row and what it points to. -/
def KpD (W : World) (lo : Nat) (T : Nat → Prop) (ub db : Nat) (wp : Option Nat) (sum : Nat) (s : List Nat) (R : List Rec) (L : Option Rec) (F : Option (List Nat)) (soft : Bool) : Prop :=
  ∃ sv rv lv fv, W.heap[ub]? = some (wdRow db (wp.map fun b => ⟨b, 0, none⟩) sum sv rv lv fv soft) ∧ BytX W lo T sv s ∧ RcX W lo T rv R ∧ LatX W lo T lv L ∧ FolX W lo T fv F
theorem KpD.grS {W W' : World} {lo : Nat} {T U : Nat → Prop} {ub db sum : Nat} {wp : Option Nat} {s : List Nat} {R : List Rec} {L : Option Rec} {F : Option (List Nat)} {soft : Bool} (h : KpD W lo T ub db wp sum s R L F soft) (hg : GrS U W W') (hU : ∀ k, T k → ¬ U k) (hu : ¬ U ub) : KpD W' lo T ub db wp sum s R L F soft := by
  obtain ⟨sv, rv, lv, fv, hr, h1, h2, h3, h4⟩ := h
  exact ⟨sv, rv, lv, fv, (hg.block ub (wd_lt hr) hu).trans hr, h1.grS hg hU, h2.grS hg hU, h3.grS hg hU, h4.grS hg hU⟩

/-- The whole state. -/
structure KpS (lo : Nat) (S T : Nat → Prop) (ub db sum : Nat) (d : Dk) (s : List Nat) (R : List Rec) (L : Option Rec) (F : Option (List Nat)) (soft : Bool) (wp : Option Nat) (g : Nat) (W : World) : Prop where
  disk : DiskAt W lo S db d
  shp : Shp sum s R L F g d.fs
  fine : Fine sum s R L F g
  lf : L = none ∨ F = none
  dat : KpD W lo T ub db wp sum s R L F soft
  drw : ∀ wb, wp = some wb → (¬ S wb ∧ ¬ T wb ∧ wb ≠ ub ∧ lo ≤ wb) ∧ ∃ n stuck, DwAt W wb db sum g n stuck ∧ (stuck = false → Base sum s R g d.fs ∧ L = none ∧ F = none ∧ n = R.length ∧ soft = false) ∧ (stuck = true → (L.isSome ∨ F.isSome) ∧ n = R.length)
  nub : ¬ S ub
  lub : lo ≤ ub
  TS : ∀ k, T k → ¬ S k ∧ k ≠ ub ∧ lo ≤ k ∧ k < W.heap.size
section
variable {lo : Nat} {S S' T : Nat → Prop} {ub db sum : Nat} {d d' : Dk} {s : List Nat} {R : List Rec} {L : Option Rec} {F : Option (List Nat)} {soft : Bool} {wp : Option Nat} {g : Nat} {W X : World}
theorem KpS.ult (h : KpS lo S T ub db sum d s R L F soft wp g W) : ub < W.heap.size := by
  obtain ⟨sv, rv, lv, fv, hr, -⟩ := h.dat
  exact wd_lt hr
/-- The disk moves on; its files stay such as they may be, and stay as they are where all is sure. -/
theorem KpS.move (h : KpS lo S T ub db sum d s R L F soft wp g W) (hD : DiskAt X lo S' db d') (hv : Dv S W S' X) (hs : Shp sum s R L F g d'.fs) (hB : Base sum s R g d.fs → Base sum s R g d'.fs) : KpS lo S' T ub db sum d' s R L F soft wp g X := by
  have hul := h.ult
  have hS' : ∀ k, k < W.heap.size → ¬ S k → ¬ S' k := fun k hk hn e => by
    rcases hv.sub _ e with e | e
    · exact hn e
    · omega
  refine ⟨hD, hs, h.fine, h.lf, h.dat.grS hv.gr (fun k hk => (h.TS k hk).1) h.nub, fun wb e => ?_, hS' _ hul h.nub, h.lub, fun k hk => ?_⟩
  · obtain ⟨⟨q1, q2, q3, q4⟩, n, st, q5, q6, q7⟩ := h.drw wb e
    exact ⟨⟨hS' _ q5.lt q1, q2, q3, q4⟩, n, st, q5.grS hv.gr q1, fun e => ⟨hB (q6 e).1, (q6 e).2⟩, q7⟩
  · obtain ⟨a, b, c, e⟩ := h.TS k hk
    exact ⟨hS' k e a, b, c, Nat.lt_of_lt_of_le e hv.gr.size⟩
theorem KpS.later (h : KpS lo S T ub db sum d s R L F soft wp g W) (hX : Below W.heap.size W X) : KpS lo S T ub db sum d s R L F soft wp g X := h.move (h.disk.later hX) (.below hX) h.shp id
theorem KpS.Rlen (h : KpS lo S T ub db sum d s R L F soft wp g W) : R.length ≤ 2097152 ∧ ∀ f ∈ d.fs, ∃ k, k ≤ 99999999 ∧ f.nm = Nm k := by
  have hok : Ok d := by
    obtain ⟨mb, D, fb, vv, h⟩ := h.disk
    exact h.ok
  have hR : ∀ t : List Nat, (enc sum s R ++ t).length ≤ 2097152 → R.length ≤ 2097152 := fun t ht => by
    have := enc_len sum s R
    have : ∀ (Q : List Rec) k, Q.length ≤ (encR sum k Q).length := by
      intro Q
      induction Q with
      | nil => intro k; simp
      | cons r Q ih =>
        intro k
        have := ih (k + 1)
        simp only [encR, List.length_append, piece_len, List.length_cons]
        omega
    have := this R 1
    rw [List.length_append] at ht
    omega
  have hf := h.fine
  generalize hfs : d.fs = fs at *
  have hsz := hok.siz
  rw [hfs] at hsz
  have hs := h.shp
  rw [hfs] at hs
  cases hs with
  | base => exact ⟨hR [] (by rw [List.append_nil]; exact hsz _ (List.mem_singleton.2 rfl)), fun f hfm => ⟨g, hf.top, by rw [List.mem_singleton.1 hfm]; rfl⟩⟩
  | late hL hn h1 h2 => exact ⟨hR _ (hsz _ (List.mem_singleton.2 rfl)), fun f hfm => ⟨g, hf.top, by rw [List.mem_singleton.1 hfm]; rfl⟩⟩
  | foldA hF hn h1 => exact ⟨hR [] (by rw [List.append_nil]; exact hsz _ (List.mem_cons_self ..)), fun f hfm => by
      rcases List.mem_cons.1 hfm with e | e
      · exact ⟨g, hf.top, by rw [e]; rfl⟩
      · exact ⟨g + 1, (hf.F _ hF).2, by rw [List.mem_singleton.1 e]; rfl⟩⟩
  | foldB hF hn h1 => exact ⟨hR [] (by rw [List.append_nil]; exact hsz _ (List.mem_cons_of_mem _ (List.mem_singleton.2 rfl))), fun f hfm => by
      rcases List.mem_cons.1 hfm with e | e
      · exact ⟨g + 1, (hf.F _ hF).2, by rw [e]; rfl⟩
      · exact ⟨g, hf.top, by rw [List.mem_singleton.1 e]; rfl⟩⟩
  | none h1 h2 h3 => exact ⟨by rw [h2]; simp, fun f hfm => (by simp at hfm)⟩
  | fresh h1 h2 h3 h4 h5 => exact ⟨by rw [h2]; simp, fun f hfm => ⟨1, by decide, by rw [List.mem_singleton.1 hfm]; rfl⟩⟩
/-- What 'may' reads. -/
theorem KpD.wd (h : KpD W lo T ub db wp sum s R L F soft) (hR : R.length ≤ 1000000000) : ∃ sa ra la fa sc rc lc fc, WdM W ub s R L.toList F.toList sa ra la fa sc rc lc fc := by
  obtain ⟨sv, rv, lv, fv, hr, h1, h2, h3, h4⟩ := h
  obtain ⟨sa, sc, rfl, b1⟩ := h1.len
  obtain ⟨ra, rc, rfl, -⟩ := h2.rc.len
  obtain ⟨la, lc, rfl, b3⟩ := h3.len
  obtain ⟨fa, fc, rfl, b4⟩ := h4.len
  obtain ⟨-, -, -, c3, c4, c5, c6, -⟩ := wd_cells hr
  exact ⟨sa, ra, la, fa, sc, rc, lc, fc, c3, c4, c5, c6, b1, h2.rc.at_, b3, b4, hR⟩
/-- 'may', where it may be. -/
theorem may_any {s' : List Nat} {R' : List Rec} (h : KpD W lo T ub db wp sum s R L F soft) (hR : R.length ≤ 1000000000) (hlf : L = none ∨ F = none) (hm : May s R L F s' R') (s2 r2 : Option Addr) (k1 k2 : Nat) (hs : Byts W s2 s') (hr : RcAt W r2 R') (hk : R'.length ≤ k2) :
    Calls Tryz.prog 27 #[.pointer (some ⟨ub, 0, none⟩), .slice s2 s'.length k1, .slice r2 R'.length k2] W fun e w' => e = .returned (.bool true) ∧ ∃ m, w' = W.drewN m := by
  obtain ⟨sa, ra, la, fa, sc, rc, lc, fc, hw⟩ := h.wd hR
  rcases hm with ⟨rfl, rfl | ⟨r, rfl, rfl⟩⟩ | ⟨rfl, rfl⟩
  · exact may_same hw s2 r2 k1 k2 hs hr
  · rw [List.length_append] at hk ⊢
    exact may_late hw s2 r2 k1 k2 hs hr hk
  · obtain rfl : L = none := hlf.resolve_right (by simp)
    exact may_fold hw s2 r2 k1 k2 hs hr
end
end Go.Proofs.YtakcdgeanbpllaaGreatDoor.DJ


/- Records that grow behind one another in the law's world. -/
namespace Go.Proofs.YtakcdgeanbpllaaGreatDoor.DJ
open Go.RowKit

/-- A drawer that is open; the records are being told. -/
structure KpG (lo : Nat) (S T : Nat → Prop) (ub db wb sum : Nat) (d : Dk) (s : List Nat) (R : List Rec) (g n : Nat) (lv fv : Value) (soft : Bool) (W : World) : Prop where
  disk : DiskAt W lo S db d
  drw : DwAt W wb db sum g n false
  row : ∃ sv rv, W.heap[ub]? = some (wdRow db (some ⟨wb, 0, none⟩) sum sv rv lv fv soft) ∧ BytX W lo T sv s ∧ RcX W lo T rv R
  nwb : ¬ S wb
  nub : ¬ S ub
  ne : wb ≠ ub
  lwb : lo ≤ wb
  lub : lo ≤ ub
  TS : ∀ k, T k → ¬ S k ∧ k ≠ wb ∧ k ≠ ub ∧ lo ≤ k ∧ k < W.heap.size
section
variable {lo : Nat} {S S' T : Nat → Prop} {ub db wb sum : Nat} {d d' : Dk} {s : List Nat} {R : List Rec} {g n : Nat} {lv fv : Value} {soft : Bool} {W X : World}
theorem KpG.ult (h : KpG lo S T ub db wb sum d s R g n lv fv soft W) : ub < W.heap.size := by
  obtain ⟨sv, rv, hr, -⟩ := h.row
  exact wd_lt hr
theorem KpG.later (h : KpG lo S T ub db wb sum d s R g n lv fv soft W) (hX : Below W.heap.size W X) : KpG lo S T ub db wb sum d s R g n lv fv soft X where
  disk := h.disk.later hX
  drw := h.drw.later hX
  row := by
    obtain ⟨sv, rv, hr, h1, h2⟩ := h.row
    exact ⟨sv, rv, (hX.block _ (wd_lt hr)).trans hr, h1.grS (U := fun _ => False) (.of_below hX) (fun _ _ h => h), h2.grS (U := fun _ => False) (.of_below hX) (fun _ _ h => h)⟩
  nwb := h.nwb
  nub := h.nub
  ne := h.ne
  lwb := h.lwb
  lub := h.lub
  TS := fun k hk => by
    obtain ⟨a, b, c, d, e⟩ := h.TS k hk
    exact ⟨a, b, c, d, Nat.lt_of_lt_of_le e hX.size⟩
theorem KpG.put (h : KpG lo S T ub db wb sum d s R g n lv fv soft W) {g' n' : Nat} (hD : DiskAt X lo S' db d') (hw : DwAt X wb db sum g' n' false) (hv : Dw S wb W S' X) : KpG lo S' T ub db wb sum d' s R g' n' lv fv soft X := by
  obtain ⟨sv, rv, hr, h1, h2⟩ := h.row
  have hl := wd_lt hr
  have hwl := h.drw.lt
  have hT : ∀ k, T k → ¬ (S k ∨ k = wb) := fun k hk e => by
    obtain ⟨a, b, -⟩ := h.TS k hk
    exact e.elim a b
  have hS' : ∀ k, k < W.heap.size → ¬ S k → ¬ S' k := fun k hk hn e => by
    rcases hv.sub _ e with e | e
    · exact hn e
    · omega
  refine ⟨hD, hw, ⟨sv, rv, (hv.gr.block ub hl (fun e => e.elim h.nub (fun e => h.ne e.symm))).trans hr, h1.grS hv.gr hT, h2.grS hv.gr hT⟩, hS' _ hwl h.nwb, hS' _ hl h.nub, h.ne, h.lwb, h.lub, fun k hk => ?_⟩
  obtain ⟨a, b, c, e, f⟩ := h.TS k hk
  exact ⟨hS' k f a, b, c, e, Nat.lt_of_lt_of_le f hv.gr.size⟩
theorem KpG.bel (h : KpG lo S T ub db wb sum d s R g n lv fv soft W) (hlo : lo ≤ W.heap.size) (hv : Dw S wb W S' X) : Below lo W X := hv.gr.below hlo (fun k hk => by
  rcases hk with hk | rfl
  · exact (h.disk.low k hk).1
  · exact h.lwb)
theorem KpG.grow (h : KpG lo S T ub db wb sum d s R g n lv fv soft W) {sv rv : Value} (hr : W.heap[ub]? = some (wdRow db (some ⟨wb, 0, none⟩) sum sv rv lv fv soft)) (hsv : BytX W lo T sv s) {L : List (Rec × Value)} (hL : L.map Prod.fst = R) (ho : W.ownsRow lo 38 2 rv R.length (rcV L)) (hvT : ∀ g, rv.ownBlock = some g → T g) (hx : ∀ x ∈ L, RcB W lo x ∧ ∀ g, x.2.ownBlock = some g → T g)
    {kd : Nat} {b : List Nat} {bv : Value} (hb : RcB W lo ((kd, b), bv)) (hbn : ∀ g, bv.ownBlock = some g → ¬ S g ∧ g ≠ wb ∧ g ≠ ub) {v' : Value} {w9 : World} (hg : W.grownBy w9 rv.ownBlock) (ho' : w9.ownsRow lo 38 2 v' (R.length + 1) (rcV L ++ [.int .u8 (kd : Int), bv])) (hat : v'.ownBlock = rv.ownBlock ∨ v'.ownBlock = some W.heap.size) (hlo : lo ≤ W.heap.size) :
    w9.heap[ub]? = some (wdRow db (some ⟨wb, 0, none⟩) sum sv rv lv fv soft) ∧ (∃ T', KpG lo S T' ub db wb sum d s (R ++ [(kd, b)]) g n lv fv soft (w9.setCell ⟨ub, 4, none⟩ v') ∧ ∀ k, T' k → T k ∨ bv.ownBlock = some k ∨ k = W.heap.size) ∧ Below lo W (w9.setCell ⟨ub, 4, none⟩ v') ∧ GrS (fun k => T k ∨ k = ub) W (w9.setCell ⟨ub, 4, none⟩ v') := by
  have G : GrS (fun k => rv.ownBlock = some k) W w9 := .of_grown' hg (fun k e => e)
  have G' := grS_set w9 ub 4 v'
  have GU : GrS (fun k => rv.ownBlock = some k ∨ k = ub) W (w9.setCell ⟨ub, 4, none⟩ v') := (G.mono (fun _ _ e => .inl e)).trans (G'.mono (fun _ _ e => .inr e))
  have nS : ∀ k, rv.ownBlock = some k → ¬ S k ∧ k ≠ wb ∧ k ≠ ub := fun k e => ⟨(h.TS k (hvT k e)).1, (h.TS k (hvT k e)).2.1, (h.TS k (hvT k e)).2.2.1⟩
  have hr9 := (G.block ub (wd_lt hr) (fun e => (nS _ e).2.2 rfl)).trans hr
  have hS := h.disk.low
  have hwl := h.drw.lt
  have hul := wd_lt hr
  have tag : ∀ v : Value, ∀ m xs, W.ownsRow lo 5 1 v m xs → ∀ g, v.ownBlock = some g → rv.ownBlock ≠ some g := fun v m xs hv g e e' => by
    obtain ⟨-, cs, r1⟩ := own_rowT hv e
    obtain ⟨-, cs', r2⟩ := own_rowT ho e'
    rw [r1] at r2
    simp at r2
  have hvn : ∀ g, v'.ownBlock = some g → ¬ S g ∧ g ≠ wb ∧ g ≠ ub := fun g e => by
    rcases hat with a | a
    · exact nS g (a ▸ e)
    · rw [a] at e
      obtain rfl := Option.some.inj e
      exact ⟨fun e => by have := (hS _ e).2; omega, by omega, by omega⟩
  refine ⟨hr9, ⟨fun k => T k ∨ bv.ownBlock = some k ∨ v'.ownBlock = some k, ⟨(h.disk.grS G (fun k hk e => (nS k e).1 hk)).grS G' (fun k hk e => h.nub (e ▸ hk)), (h.drw.grS G (fun e => (nS _ e).2.1 rfl)).grS G' h.ne, ⟨sv, v', heap_setCell_same _ _ 4 _ _ _ hr9, ⟨hsv.1, GU.own hsv.2.1 (fun g e e' => e'.elim (tag _ _ _ hsv.2.1 g e) (fun e' => (h.TS g (hsv.2.2 g e)).2.2.1 e')), fun g e => .inl (hsv.2.2 g e)⟩, L ++ [((kd, b), bv)], by rw [List.map_append, hL]; rfl, ?_, fun g e => .inr (.inr e), fun x hxm => ?_⟩, h.nwb, h.nub, h.ne, h.lwb, h.lub, fun k hk => ?_⟩, fun k hk => ?_⟩, GU.below hlo (fun k e => e.elim (fun e => (own_ltT ho e).1) (fun e => e ▸ h.lub)), GU.mono (fun k _ e => e.imp (hvT k) id)⟩
  · rw [rcV_snoc, List.length_append]
    exact G'.own ho' (fun g e e' => (hvn g e).2.2 e')
  · rcases List.mem_append.1 hxm with hxm | hxm
    · obtain ⟨p1, p2⟩ := hx x hxm
      exact ⟨⟨p1.kd, p1.byt, GU.own p1.own (fun g e e' => e'.elim (tag _ _ _ p1.own g e) (fun e' => (h.TS g (p2 g e)).2.2.1 e'))⟩, fun g e => .inl (p2 g e)⟩
    · rw [List.mem_singleton.1 hxm]
      exact ⟨⟨hb.kd, hb.byt, GU.own hb.own (fun g e e' => e'.elim (tag _ _ _ hb.own g e) (fun e' => (hbn g e).2.2 e'))⟩, fun g e => .inr (.inl e)⟩
  · have hz := GU.size
    rcases hk with hk | hk | hk
    · obtain ⟨a, b, c, e, f⟩ := h.TS k hk
      exact ⟨a, b, c, e, by omega⟩
    · obtain ⟨a, b, c⟩ := hbn k hk
      obtain ⟨q1, q2⟩ := own_ltT hb.own hk
      exact ⟨a, b, c, q1, by omega⟩
    · obtain ⟨a, b, c⟩ := hvn k hk
      obtain ⟨q1, q2⟩ := own_ltT ho' hk
      exact ⟨a, b, c, q1, by rw [show (w9.setCell ⟨ub, 4, none⟩ v').heap.size = w9.heap.size by simp]; exact q2⟩
  · rcases hk with hk | hk | hk
    · exact .inl hk
    · exact .inr (.inl hk)
    · rcases hat with a | a
      · exact .inl (hvT k (a ▸ hk))
      · rw [a] at hk
        exact .inr (.inr (Option.some.inj hk).symm)
/-- Nothing in flight: the state is whole. -/
theorem KpG.whole (h : KpG lo S T ub db wb sum d s R g R.length (.slice none 0 0) (.slice none 0 0) false W) (hB : Base sum s R g d.fs) : KpS lo S T ub db sum d s R none none false (some wb) g W := by
  obtain ⟨sv, rv, hr, h1, h2⟩ := h.row
  refine ⟨h.disk, hB.shp _ _, hB.fine, .inl rfl, ⟨sv, rv, _, _, hr, h1, h2, rfl, rfl⟩, fun wb' e => ?_, h.nub, h.lub, fun k hk => ?_⟩
  · obtain rfl := Option.some.inj e
    exact ⟨⟨h.nwb, fun e => (h.TS _ e).2.1 rfl, h.ne, h.lwb⟩, R.length, false, h.drw, fun _ => ⟨hB, rfl, rfl, rfl, rfl⟩, fun e => (by cases e)⟩
  · obtain ⟨a, -, c, e, f⟩ := h.TS k hk
    exact ⟨a, c, e, f⟩
/-- And the other way: a drawer that is not stuck. -/
theorem KpS.grows {L : Option Rec} {F : Option (List Nat)} (h : KpS lo S T ub db sum d s R L F soft (some wb) g W) (hw : DwAt W wb db sum g n false) : KpG lo S T ub db wb sum d s R g R.length (.slice none 0 0) (.slice none 0 0) false W ∧ Base sum s R g d.fs ∧ L = none ∧ F = none ∧ soft = false ∧ n = R.length := by
  obtain ⟨⟨q1, q2, q3, q4⟩, n', st, q5, q6, -⟩ := h.drw wb rfl
  have e : n' = n ∧ st = false := by
    have := q5.symm.trans hw
    simp at this
    exact ⟨by omega, this.2⟩
  obtain ⟨rfl, rfl⟩ := e
  obtain ⟨hB, rfl, rfl, rfl, rfl⟩ := q6 rfl
  obtain ⟨sv, rv, lv, fv, hr, h1, h2, h3, h4⟩ := h.dat
  obtain rfl : lv = .slice none 0 0 := h3
  obtain rfl : fv = .slice none 0 0 := h4
  refine ⟨⟨h.disk, q5, ⟨sv, rv, hr, h1, h2⟩, q1, h.nub, q3, q4, h.lub, fun k hk => ?_⟩, hB, rfl, rfl, rfl, rfl⟩
  obtain ⟨a, b, c, e⟩ := h.TS k hk
  exact ⟨a, fun e' => q2 (e' ▸ hk), b, c, e⟩
end
end Go.Proofs.YtakcdgeanbpllaaGreatDoor.DJ

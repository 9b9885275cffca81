import Derived.Test.YthbojlbgjmecoaaGreatDmL
import Derived.Test.YthbojlbgjmecoaaGreatShelf
import Derived.Laws.AppendOwnNone
import Derived.Deep.DeepCutAuto
/- lay: bytes at a file's end. -/
namespace Go.Proofs.YthbojlbgjmecoaaGreat.DJ
open Go.RowKit

theorem sclone (s : ByteArray) (hs : s.size ≤ 281474976710656) (w : World) : Calls Tryz.prog 42 #[.string s] w fun e w' => e = .returned (.string s) ∧ Below w.heap.size w w' := by
  have h := Tryz.stringslite_Clone s w hs
  go_enter Tryz.func42, Tryz.ntmps42
  go_wp2_with (go_at_call 85; refine h.mono ?_; rintro e w1 ⟨rfl, hb1⟩)
  go_ret
  exact ⟨rfl, hb1⟩

theorem bysV_append (a b : List Nat) : bysV (a ++ b) = bysV a ++ bysV b := by simp [bysV]
/-- 'append(v, b...)' where v is a row of one's own: where its block is then. -/
theorem wpList_layN (w : World) {ops : Array Oper} {rest : List Oper} {o : Oper} {a : Act} {Q : Exit → Act → World → Prop} (hgd : o.guard = none) (s x : Operand)
    (ho : o.op = .call { callee := .builtin .append, args := #[s, x], argTypes := #[34, 34] }) (base : Nat) (hbase : base ≤ w.heap.size) (v0 : Value) (xs : List Nat) (hs : a.eval s = v0) (hv0 : w.ownsRow base 5 1 v0 xs.length (bysV xs)) (ad : Option Addr) (cap : Nat) (bs : List Nat) (hx : a.eval x = .slice ad bs.length cap) (hcap : ad = none → cap = 0) (hN : Byts w ad bs) (hlen : xs.length + bs.length ≤ 140737488355328)
    (h : ∀ v' w', w'.ownsRow base 5 1 v' (xs.length + bs.length) (bysV (xs ++ bs)) → w.grownBy w' v0.ownBlock → (v'.ownBlock = v0.ownBlock ∨ v'.ownBlock = some w.heap.size) → wpList Tryz.prog ops Q rest (a.put o.dst v') w') : wpList Tryz.prog ops Q (o :: rest) a w := by
  obtain ⟨i0, hi, hz0, hz1, hz2⟩ := info_parts infoB
  cases ad with
  | none =>
    obtain rfl := hcap rfl
    obtain ⟨h0, h1 | ⟨b, off, h1, _⟩⟩ := hN
    · subst h1
      refine wpList_plain hgd fun K hK => ?_
      have hr := run_append_owned_none (P := Tryz.prog) (w := w) base 34 o.type 5 i0 1 Tryz.underlying34 hi v0 xs.length (bysV xs) hv0
      unfold Oper.wp execOp
      simp only [List.length_nil] at hx
      simp only [ho, resolve, invoke, builtin, Sem.run_bind, Sem.run_pure, Result.andThen_ok, List.map_toArray, List.map_cons, List.map_nil, hs, hx, hr]
      exact hK _ _ (h v0 w (by rw [List.append_nil]; exact hv0) ⟨rfl, rfl, rfl, Nat.le_refl _, fun _ _ _ => rfl⟩ (.inl rfl))
    · cases h1
  | some ad =>
    refine wpList_append_own_at (P := Tryz.prog) w hgd s x 34 ho base 5 i0 (.int .u8 0) 1 1 Tryz.underlying34 hi hz0 hz1 hz2 rfl (by decide) _ xs.length (bysV xs) hs hv0 ad bs.length cap (bysV bs) hx (by simp [bysV]) (fun j u hj => ?_) (bysV_one bs) (by unfold maxLen; omega) (by omega) hbase ?_
    · obtain ⟨h0, rfl | ⟨b, off, h1, hlt, hc⟩⟩ := hN
      · simp [bysV] at hj
      · obtain rfl := Option.some.inj h1
        have hjl : j < bs.length := by
          have := (List.getElem?_eq_some_iff.1 hj).1
          simpa [bysV] using this
        have := hc j hjl
        simp only [bysV, List.getElem?_map, List.getElem?_eq_getElem hjl, Option.map_some, Option.some.injEq] at hj
        rw [← hj]
        simp only [Addr.add]
        split
        · rename_i h0
          subst h0
          rw [Nat.add_zero] at this
          exact this
        · exact this
    · intro v' w' hown hgrow _ hat
      refine h v' w' ?_ hgrow hat
      rw [bysV_append]
      exact hown

def layF (data : List Nat) (f : Fl) : Fl := ⟨f.nm, f.dat ++ data, f.sure⟩
theorem lay_some {fs : List Fl} {nm data : List Nat} {f : Fl} (h : get fs nm = some f) : lay fs nm data = upd fs nm (layF data) := by unfold lay; rw [h]; rfl
theorem lay_none {fs : List Fl} {nm data : List Nat} (h : get fs nm = none) : lay fs nm data = ins fs ⟨nm, data, 0⟩ := by unfold lay; rw [h]
theorem upd_not {fs : List Fl} {nm : List Nat} {g : Fl → Fl} (h : ∀ f ∈ fs, f.nm ≠ nm) : upd fs nm g = fs := by
  unfold upd
  conv => rhs; rw [← List.map_id fs]
  refine List.map_congr_left fun f hf => ?_
  rw [if_neg (h f hf)]; rfl
theorem upd_ins {fs : List Fl} {nm data : List Nat} (h : get fs nm = none) : upd (ins fs ⟨nm, [], 0⟩) nm (layF data) = ins fs ⟨nm, data, 0⟩ := by
  have hn := get_none.1 h
  unfold ins
  have e : upd (fs.takeWhile (fun x => ltB x.nm nm) ++ (⟨nm, [], 0⟩ : Fl) :: fs.dropWhile (fun x => ltB x.nm nm)) nm (layF data) = upd (fs.takeWhile fun x => ltB x.nm nm) nm (layF data) ++ layF data ⟨nm, [], 0⟩ :: upd (fs.dropWhile fun x => ltB x.nm nm) nm (layF data) := by
    simp [upd]
  rw [e, upd_not (fun f hf => hn f ((List.takeWhile_sublist _).subset hf)), upd_not (fun f hf => hn f ((List.dropWhile_sublist _).subset hf))]
  simp [layF]

/-- A file has grown. -/
theorem Lay.grow {W W1 : World} {lo db : Nat} {S : Nat → Prop} {d : Dk} {mb : Nat} {D : DataW Nat} {fb : List Nat → Nat} {vv : List Nat → Value} (h : Lay W lo S db d mb D fb vv) {f : Fl} (hf : f ∈ d.fs) {data : List Nat} (hz : f.dat.length + data.length ≤ 2097152) (hb : ∀ x ∈ data, x < 256) {v' : Value}
    (ho : W1.ownsRow lo 5 1 v' (f.dat.length + data.length) (bysV (f.dat ++ data))) (hg : W.grownBy W1 (vv f.nm).ownBlock) (ha : v'.ownBlock = (vv f.nm).ownBlock ∨ v'.ownBlock = some W.heap.size) :
    ∃ S', DiskAt (W1.setCell ⟨fb f.nm, 0, none⟩ v') lo S' db { d with fs := upd d.fs f.nm (layF data) } ∧ Dv S W S' (W1.setCell ⟨fb f.nm, 0, none⟩ v') := by
  rw [← List.length_append] at ho
  have hne : ∀ k, (vv f.nm).ownBlock = some k → k ≠ fb f.nm := fun k hk => h.vv_fb hf hf hk
  have hr1 : W1.heap[fb f.nm]? = some (.cells #[vv f.nm, .int .i64 (f.sure : Int)] 100 (0, 0)) := (hg.block _ (h.hi _ (h.Sfb f hf)) (fun e => hne _ e.symm rfl)).trans (h.fil f hf).row
  have hs := grS_set W1 (fb f.nm) 0 v'
  have hv' : ∀ k, v'.ownBlock = some k → k ≠ fb f.nm := fun k hk e => by
    rcases ha with h' | h'
    · rw [hk] at h'; exact hne k h'.symm e
    · rw [hk] at h'
      have h1 := h.hi _ (h.Sfb f hf)
      obtain rfl := Option.some.inj h'
      omega
  have hG : GrS (fun k => k = fb f.nm ∨ (vv f.nm).ownBlock = some k) W (W1.setCell ⟨fb f.nm, 0, none⟩ v') := (GrS.of_grown' hg (fun k e => .inr e)).trans (hs.mono (fun k _ e => .inl e))
  obtain ⟨S', hL, hv⟩ := h.turn (d' := { d with fs := upd d.fs f.nm (layF data) }) hf hG (f' := layF data f) rfl ⟨by rw [heap_setCell_same _ _ _ _ _ _ hr1]; rfl, hs.own ho hv'⟩ (fun k hk => by
      rcases ha with h' | h'
      · exact .inl (h' ▸ hk)
      · rw [hk] at h'; exact .inr (by have := Option.some.inj h'; omega)) (by rw [upd_same h.ok.srt hf]) rfl rfl rfl rfl (by simp only [layF, List.length_append]; exact hz) (by have := h.ok.sur f hf; simp only [layF, List.length_append]; omega) (fun x hx => by
      rcases List.mem_append.1 hx with hx | hx
      · exact h.ok.byt f hf x hx
      · exact hb x hx)
  exact ⟨S', ⟨mb, D, fb, _, hL⟩, hv⟩

set_option maxRecDepth 4000 in
set_option maxHeartbeats 1000000 in
theorem lay_yes {lo db : Nat} {S : Nat → Prop} {d : Dk} {f : Fl} (hf : f ∈ d.fs) {data : List Nat} (hz : f.dat.length + data.length ≤ 2097152) (ad : Option Addr) (cap : Nat) (hcap : ad = none → cap = 0) (w : World) (hlo : lo ≤ w.heap.size) (hN : Byts w ad data) (h : DiskAt w lo S db d) :
    Calls Tryz.prog 68 #[.pointer (some ⟨db, 0, none⟩), .string (strB f.nm), .slice ad data.length cap] w fun e w' => e = .returned (.tuple #[]) ∧ ∃ S', DiskAt w' lo S' db { d with fs := lay d.fs f.nm data } ∧ Dv S w S' w' := by
  have hh := has_any (nm := f.nm) (by
    obtain ⟨mb, D, fb, vv, h⟩ := h
    exact Nat.le_trans (h.ok.nmd f hf).2.2 (by decide)) (by
    obtain ⟨mb, D, fb, vv, h⟩ := h
    exact named_lt (h.ok.nmd f hf)) w h
  obtain ⟨mb, D, fb, vv, h⟩ := h
  have hg := get_of h.ok.srt hf
  rw [hg] at hh
  rw [lay_some hg]
  obtain ⟨c0, -⟩ := h.cells
  have hl := h.look hf
  obtain ⟨k0, k1, f0, f1⟩ := (h.fil f hf).cells
  have hfb := h.hi _ (h.Sfb f hf)
  have hdat := (h.fil f hf).dat
  have hne : ∀ k, (vv f.nm).ownBlock = some k → k ≠ fb f.nm := fun k hk => h.vv_fb hf hf hk
  have hrow := (h.fil f hf).row
  have hgrow := fun v' W1 ho hg ha => h.grow hf (data := data) hz hN.1 (v' := v') (W1 := W1) ho hg ha
  replace hgrow := Hid.mk hgrow
  clear h hg hf
  obtain ⟨v, hv⟩ : ∃ v, vv f.nm = v := ⟨_, rfl⟩
  obtain ⟨b, hb⟩ : ∃ b, fb f.nm = b := ⟨_, rfl⟩
  rw [hv] at hgrow hdat k0 hne hrow
  rw [hb] at hgrow k0 k1 f0 f1 hl hfb hne hrow
  generalize strB f.nm = s at *
  have tok : True := trivial
  clear hv hb
  go_enter Tryz.func68, Tryz.ntmps68
  go_wp2_with (first | (go_at_call 40; refine hh.mono ?_; rintro e w9 ⟨rfl, rfl⟩) | (at_builtin; go_loud (refine wpList_layN _ rfl _ _ rfl lo hlo v f.dat rfl hdat ad cap data rfl hcap hN (by omega) ?_); have _u := tok; clear tok; intro v1 w1 ho1 hg1 ha1; obtain ⟨p1, cc1, rfl⟩ := own_lenB ho1; have r1 := (hg1.block b hfb (fun e => hne _ e.symm rfl)).trans hrow; have d0 := cell_of_row _ _ 0 _ _ _ r1; have e0 := frozen_of_row w1 b 0 _ _ r1; simp only [List.getElem?_toArray, List.getElem?_cons_zero] at d0))
  go_end0
  exact ⟨rfl, hgrow.out _ w1 ho1 hg1 ha1⟩
end Go.Proofs.YthbojlbgjmecoaaGreat.DJ


/- lay: a file is made. -/
namespace Go.Proofs.YthbojlbgjmecoaaGreat.DJ
open Go.RowKit

theorem below_step {w X Y : World} (h : Below w.heap.size w X) (h' : Below X.heap.size X Y) : Below w.heap.size w Y := h.trans (h'.mono h.size)
def fObj : Obj := .cells #[.slice none 0 0, .int .i64 0] 100
/-- What is so once the file is made. -/
def Made (w : World) (lo db : Nat) (S : Nat → Prop) (d : Dk) (nm : List Nat) (mb : Nat) (X : World) : Prop := ∃ S1 D1 fb1 vv1, Lay X lo S1 db { d with fs := ins d.fs ⟨nm, [], 0⟩ } mb D1 fb1 vv1 ∧ Dv S w S1 X
theorem add_pack {w X : World} {lo db : Nat} {S : Nat → Prop} {d : Dk} {mb : Nat} {D : DataW Nat} {fb : List Nat → Nat} {vv : List Nat → Value} (h : Lay w lo S db d mb D fb vv) (hlo : lo ≤ w.heap.size) (hB : Below w.heap.size w X) {xb : Nat} (hxb : w.heap.size ≤ xb) (hrow : X.heap[xb]? = some (.cells #[.slice none 0 0, .int .i64 0] 100 (0, 0))) {nm : List Nat} (hg : get d.fs nm = none) (hn : named nm) (hl : d.fs.length < 40) :
    ∃ w9, (Instr.mapUpdate 94 (.map (some mb)) (.string (strB nm)) (.pointer (some ⟨xb, 0, none⟩))).run Tryz.prog X = .ok () w9 ∧ Made w lo db S d nm mb w9 := by
  have hX := h.grS (T := fun _ => False) (.of_below hB) (fun _ _ h => h)
  obtain ⟨w9, hrun, hown, hturn⟩ := hX.map.store bkey bmapT (Nat.lt_of_lt_of_le hl (by decide)) (bkeyOf (strB_len (Nat.le_trans hn.2.2 (by decide)))) (show bR (.pointer (some ⟨xb, 0, none⟩)) = some (.held xb, []) from rfl)
  have hG : GrS (fun k => k = mb) w w9 := (GrS.of_below hB).trans (.of_grown hturn.grown rfl)
  have hmb := h.hi _ h.Smb
  have hr9 : w9.heap[xb]? = some (.cells #[.slice none 0 0, .int .i64 0] 100 (0, 0)) := (hturn.grown.block xb (Array.getElem?_eq_some_iff.1 hrow).1 (fun e => by have := Option.some.inj e; omega)).trans hrow
  obtain ⟨S1, hL, hv⟩ := h.add (x := ⟨nm, [], 0⟩) (d' := { d with fs := ins d.fs ⟨nm, [], 0⟩ }) hg hn (Nat.zero_le _) (Nat.zero_le _) (fun y hy => by simp at hy) hl hG hxb (v := .slice none 0 0) (fun k hk => by cases hk) ⟨hr9, World.ownsRow_nil _ _ _ _⟩ hlo hown rfl rfl rfl rfl rfl
  exact ⟨w9, hrun, S1, _, _, _, hL, hv⟩

set_option maxRecDepth 4000 in
set_option maxHeartbeats 1000000 in
theorem lay_no {lo db : Nat} {S : Nat → Prop} {d : Dk} {nm : List Nat} (hg : get d.fs nm = none) (hn : named nm) (hl40 : d.fs.length < 40) {data : List Nat} (hz : data.length ≤ 2097152) (ad : Option Addr) (cap : Nat) (hcap : ad = none → cap = 0) (w : World) (hlo : lo ≤ w.heap.size) (hN : Byts w ad data) (hap : ∀ p, ad = some p → ¬ S p.block) (h : DiskAt w lo S db d) :
    Calls Tryz.prog 68 #[.pointer (some ⟨db, 0, none⟩), .string (strB nm), .slice ad data.length cap] w fun e w' => e = .returned (.tuple #[]) ∧ ∃ S', DiskAt w' lo S' db { d with fs := lay d.fs nm data } ∧ Dv S w S' w' := by
  have hh := has_any (nm := nm) (Nat.le_trans hn.2.2 (by decide)) (named_lt hn) w h
  obtain ⟨mb, D, fb, vv, h⟩ := h
  rw [hg] at hh
  simp only [Option.isSome_none] at hh
  rw [lay_none hg]
  obtain ⟨c0, -⟩ := h.cells
  have B0 : Below w.heap.size w w.drew := (Below.refl _ _).drew
  have hsl : (strB nm).size ≤ 281474976710656 := by rw [strB_size]; exact Nat.le_trans hn.2.2 (by decide)
  have hdb := h.hi _ h.Sdb
  have hC : ∀ X, Below w.heap.size w X → X.cell? ⟨db, 0, none⟩ = some (.map (some mb)) := fun X hX => (hX.cell (p := ⟨db, 0, none⟩) hdb).trans c0
  have bA : Below w.heap.size w (w.alloc fObj) := (Below.refl _ _).alloc (Nat.le_refl _) _
  have pA : ∀ X, Below (w.alloc fObj).drew.heap.size (w.alloc fObj).drew X → ∃ w9, (Instr.mapUpdate 94 (.map (some mb)) (.string (strB nm)) (.pointer (some ⟨w.heap.size, 0, none⟩))).run Tryz.prog X = .ok () w9 ∧ Made w lo db S d nm mb w9 ∧ X.cell? ⟨db, 0, none⟩ = some (.map (some mb)) ∧ (X.alloc fObj).cell? ⟨db, 0, none⟩ = some (.map (some mb)) := fun X hX => by
    have h1 : Below w.heap.size w X := below_step (below_step bA ((Below.refl _ _).drew)) hX
    obtain ⟨w9, q1, q2⟩ := add_pack h hlo h1 (Nat.le_refl _) ((hX.block _ (by simp)).trans (heap_new w fObj)) hg hn hl40
    exact ⟨w9, q1, q2, hC X h1, hC _ (below_step h1 ((Below.refl _ _).alloc (Nat.le_refl _) fObj))⟩
  have pB : ∀ X, Below w.drew.heap.size w.drew X → ∃ w9, (Instr.mapUpdate 94 (.map (some mb)) (.string (strB nm)) (.pointer (some ⟨X.heap.size, 0, none⟩))).run Tryz.prog (X.alloc fObj) = .ok () w9 ∧ Made w lo db S d nm mb w9 ∧ X.cell? ⟨db, 0, none⟩ = some (.map (some mb)) ∧ (X.alloc fObj).cell? ⟨db, 0, none⟩ = some (.map (some mb)) := fun X hX => by
    have h1 : Below w.heap.size w X := below_step B0 hX
    have h2 := below_step h1 ((Below.refl _ _).alloc (Nat.le_refl _) fObj)
    obtain ⟨w9, q1, q2⟩ := add_pack h hlo h2 h1.size (heap_new X fObj) hg hn hl40
    exact ⟨w9, q1, q2, hC X h1, hC _ h2⟩
  unfold fObj at pA pB
  clear bA hC
  have hc := fun X => sclone (strB nm) hsl X
  clear h
  obtain ⟨s, hs⟩ : ∃ s, strB nm = s := ⟨_, rfl⟩
  rw [hs] at pA pB hh hc ⊢
  replace hs := Hid.mk hs
  go_enter Tryz.func68, Tryz.ntmps68
  go_wp2_with (go_at_call 40; refine hh.mono ?_; rintro e w9 ⟨rfl, rfl⟩)
  go_cut [18] (fun p wx => (∃ xb : Nat, p = .pointer (some ⟨xb, 0, none⟩)) ∧ Made w9 lo db S d nm mb wx)
  case first =>
    go_region_law (go_simp; go_at_call 42; refine (hc _).mono ?_; rintro e wC ⟨rfl, hbC⟩; (first | (with_reducible apply Exists.elim (pB wC hbC)) | (with_reducible apply Exists.elim (pA wC hbC))); rintro wM ⟨hrun, hM, hcC, hcD⟩)
    all_goals
      go_wp2
      go_meet
      exact ⟨⟨_, rfl⟩, hM⟩
  case rest =>
    obtain ⟨⟨xb, rfl⟩, S1, D1, fb1, vv1, hL, hv⟩ := hcut
    have hin : (⟨nm, [], 0⟩ : Fl) ∈ ins d.fs ⟨nm, [], 0⟩ := mem_ins.2 (.inl rfl)
    obtain ⟨c0', -⟩ := hL.cells
    have hl := hL.look hin
    obtain ⟨k0, k1, f0, f1⟩ := (hL.fil _ hin).cells
    have hfb := hL.hi _ (hL.Sfb _ hin)
    have hdat := (hL.fil _ hin).dat
    have hne : ∀ k, (vv1 nm).ownBlock = some k → k ≠ fb1 nm := fun k hk => hL.vv_fb hin hin hk
    have hrow := (hL.fil _ hin).row
    have hN1 : Byts wc ad data := hv.gr.byts hN hap
    have hgrow := fun v' W1 ho hg ha => hL.grow hin (data := data) (by simpa using hz) hN.1 (v' := v') (W1 := W1) ho hg ha
    rw [upd_ins hg] at hgrow
    have hlo1 : lo ≤ wc.heap.size := Nat.le_trans hlo hv.gr.size
    replace hgrow := Hid.mk hgrow
    replace hv := Hid.mk hv
    rw [hs.out] at hl
    simp only [List.length_nil, Nat.zero_add, List.nil_append] at hgrow
    clear hL hin hg pA pB hc hh c0
    obtain ⟨v, hv1⟩ : ∃ v, vv1 nm = v := ⟨_, rfl⟩
    obtain ⟨b, hb1⟩ : ∃ b, fb1 nm = b := ⟨_, rfl⟩
    simp only [hv1, hb1] at hgrow hdat k0 k1 f0 f1 hl hfb hne hrow
    have tok : True := trivial
    clear hv1 hb1
    go_wp2_with (at_builtin; go_loud (refine wpList_layN _ rfl _ _ rfl lo hlo1 v [] rfl hdat ad cap data rfl hcap hN1 (by simp only [List.length_nil]; omega) ?_); have _u := tok; clear tok; intro v1 w1 ho1 hg1 ha1; simp only [List.length_nil, Nat.zero_add, List.nil_append] at ho1; obtain ⟨p1, cc1, rfl⟩ := own_lenB ho1; have r1 := (hg1.block b hfb (fun e => hne _ e.symm rfl)).trans hrow; have d0 := cell_of_row _ _ 0 _ _ _ r1; have e0 := frozen_of_row w1 b 0 _ _ r1; simp only [List.getElem?_toArray, List.getElem?_cons_zero] at d0)
    go_end0
    obtain ⟨S', q1, q2⟩ := hgrow.out _ w1 ho1 hg1 ha1
    exact ⟨rfl, S', q1, Dv.trans hv.out q2⟩
end Go.Proofs.YthbojlbgjmecoaaGreat.DJ

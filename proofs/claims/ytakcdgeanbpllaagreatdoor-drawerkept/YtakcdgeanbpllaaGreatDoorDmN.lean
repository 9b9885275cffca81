import Derived.Test.YtakcdgeanbpllaaGreatDoorDmM
/- lay: a file is made. -/
namespace Go.Proofs.YtakcdgeanbpllaaGreatDoor.DJ
open Go.RowKit

theorem below_step {w X Y : World} (h : Below w.heap.size w X) (h' : Below X.heap.size X Y) : Below w.heap.size w Y := h.trans (h'.mono h.size)
def fObj : Obj := .cells #[.slice none 0 0, .int .i64 0] 89
/-- What is so once the file is made. -/
def Made (w : World) (lo db : Nat) (S : Nat → Prop) (d : Dk) (nm : List Nat) (mb : Nat) (X : World) : Prop := ∃ S1 D1 fb1 vv1, Lay X lo S1 db { d with fs := ins d.fs ⟨nm, [], 0⟩ } mb D1 fb1 vv1 ∧ Dv S w S1 X
theorem add_pack {w X : World} {lo db : Nat} {S : Nat → Prop} {d : Dk} {mb : Nat} {D : DataW Nat} {fb : List Nat → Nat} {vv : List Nat → Value} (h : Lay w lo S db d mb D fb vv) (hlo : lo ≤ w.heap.size) (hB : Below w.heap.size w X) {xb : Nat} (hxb : w.heap.size ≤ xb) (hrow : X.heap[xb]? = some (.cells #[.slice none 0 0, .int .i64 0] 89 (0, 0))) {nm : List Nat} (hg : get d.fs nm = none) (hn : named nm) (hl : d.fs.length < 40) :
    ∃ w9, (Instr.mapUpdate 72 (.map (some mb)) (.string (strB nm)) (.pointer (some ⟨xb, 0, none⟩))).run Tryz.prog X = .ok () w9 ∧ Made w lo db S d nm mb w9 := by
  have hX := h.grS (T := fun _ => False) (.of_below hB) (fun _ _ h => h)
  obtain ⟨w9, hrun, hown, hturn⟩ := hX.map.store bkey bmapT (Nat.lt_of_lt_of_le hl (by decide)) (bkeyOf (strB_len (Nat.le_trans hn.2.2 (by decide)))) (show bR (.pointer (some ⟨xb, 0, none⟩)) = some (.held xb, []) from rfl)
  have hG : GrS (fun k => k = mb) w w9 := (GrS.of_below hB).trans (.of_grown hturn.grown rfl)
  have hmb := h.hi _ h.Smb
  have hr9 : w9.heap[xb]? = some (.cells #[.slice none 0 0, .int .i64 0] 89 (0, 0)) := (hturn.grown.block xb (Array.getElem?_eq_some_iff.1 hrow).1 (fun e => by have := Option.some.inj e; omega)).trans hrow
  obtain ⟨S1, hL, hv⟩ := h.add (x := ⟨nm, [], 0⟩) (d' := { d with fs := ins d.fs ⟨nm, [], 0⟩ }) hg hn (Nat.zero_le _) (Nat.zero_le _) (fun y hy => by simp at hy) hl hG hxb (v := .slice none 0 0) (fun k hk => by cases hk) ⟨hr9, World.ownsRow_nil _ _ _ _⟩ hlo hown rfl rfl rfl rfl rfl
  exact ⟨w9, hrun, S1, _, _, _, hL, hv⟩

set_option maxRecDepth 4000 in
set_option maxHeartbeats 1000000 in
theorem lay_no {lo db : Nat} {S : Nat → Prop} {d : Dk} {nm : List Nat} (hg : get d.fs nm = none) (hn : named nm) (hl40 : d.fs.length < 40) {data : List Nat} (hz : data.length ≤ 2097152) (ad : Option Addr) (cap : Nat) (hcap : ad = none → cap = 0) (w : World) (hlo : lo ≤ w.heap.size) (hN : Byts w ad data) (hap : ∀ p, ad = some p → ¬ S p.block) (h : DiskAt w lo S db d) :
    Calls Tryz.prog 119 #[.pointer (some ⟨db, 0, none⟩), .string (strB nm), .slice ad data.length cap] w fun e w' => e = .returned (.tuple #[]) ∧ ∃ S', DiskAt w' lo S' db { d with fs := lay d.fs nm data } ∧ Dv S w S' w' := by
  have hh := has_any (nm := nm) (Nat.le_trans hn.2.2 (by decide)) (named_lt hn) w h
  obtain ⟨mb, D, fb, vv, h⟩ := h
  rw [hg] at hh
  simp only [Option.isSome_none] at hh
  rw [lay_none hg]
  obtain ⟨c0, -⟩ := h.cells
  have B0 : Below w.heap.size w w.drew := (Below.refl _ _).drew
  have hsl : (strB nm).size ≤ 281474976710656 := by rw [strB_size]; exact Nat.le_trans hn.2.2 (by decide)
  have hdb := h.hi _ h.Sdb
  have hC : ∀ X, Below w.heap.size w X → X.cell? ⟨db, 0, none⟩ = some (.map (some mb)) := fun X hX => (hX.cell (p := ⟨db, 0, none⟩) hdb).trans c0
  have bA : Below w.heap.size w (w.alloc fObj) := (Below.refl _ _).alloc (Nat.le_refl _) _
  have pA : ∀ X, Below (w.alloc fObj).drew.heap.size (w.alloc fObj).drew X → ∃ w9, (Instr.mapUpdate 72 (.map (some mb)) (.string (strB nm)) (.pointer (some ⟨w.heap.size, 0, none⟩))).run Tryz.prog X = .ok () w9 ∧ Made w lo db S d nm mb w9 ∧ X.cell? ⟨db, 0, none⟩ = some (.map (some mb)) ∧ (X.alloc fObj).cell? ⟨db, 0, none⟩ = some (.map (some mb)) := fun X hX => by
    have h1 : Below w.heap.size w X := below_step (below_step bA ((Below.refl _ _).drew)) hX
    obtain ⟨w9, q1, q2⟩ := add_pack h hlo h1 (Nat.le_refl _) ((hX.block _ (by simp)).trans (heap_new w fObj)) hg hn hl40
    exact ⟨w9, q1, q2, hC X h1, hC _ (below_step h1 ((Below.refl _ _).alloc (Nat.le_refl _) fObj))⟩
  have pB : ∀ X, Below w.drew.heap.size w.drew X → ∃ w9, (Instr.mapUpdate 72 (.map (some mb)) (.string (strB nm)) (.pointer (some ⟨X.heap.size, 0, none⟩))).run Tryz.prog (X.alloc fObj) = .ok () w9 ∧ Made w lo db S d nm mb w9 ∧ X.cell? ⟨db, 0, none⟩ = some (.map (some mb)) ∧ (X.alloc fObj).cell? ⟨db, 0, none⟩ = some (.map (some mb)) := fun X hX => by
    have h1 : Below w.heap.size w X := below_step B0 hX
    have h2 := below_step h1 ((Below.refl _ _).alloc (Nat.le_refl _) fObj)
    obtain ⟨w9, q1, q2⟩ := add_pack h hlo h2 h1.size (heap_new X fObj) hg hn hl40
    exact ⟨w9, q1, q2, hC X h1, hC _ h2⟩
  unfold fObj at pA pB
  clear bA hC
  have hc := fun X => sclone (strB nm) hsl X
  clear h
  obtain ⟨s, hs⟩ : ∃ s, strB nm = s := ⟨_, rfl⟩
  rw [hs] at pA pB hh hc ⊢
  replace hs := Hid.mk hs
  go_enter Tryz.func119, Tryz.ntmps119
  go_wp2_with (go_at_call 51; refine hh.mono ?_; rintro e w9 ⟨rfl, rfl⟩)
  go_cut [18] (fun p wx => (∃ xb : Nat, p = .pointer (some ⟨xb, 0, none⟩)) ∧ Made w9 lo db S d nm mb wx)
  case first =>
    go_region_law (go_simp; go_at_call 53; refine (hc _).mono ?_; rintro e wC ⟨rfl, hbC⟩; (first | (with_reducible apply Exists.elim (pB wC hbC)) | (with_reducible apply Exists.elim (pA wC hbC))); rintro wM ⟨hrun, hM, hcC, hcD⟩)
    all_goals
      go_wp2
      go_meet
      exact ⟨⟨_, rfl⟩, hM⟩
  case rest =>
    obtain ⟨⟨xb, rfl⟩, S1, D1, fb1, vv1, hL, hv⟩ := hcut
    have hin : (⟨nm, [], 0⟩ : Fl) ∈ ins d.fs ⟨nm, [], 0⟩ := mem_ins.2 (.inl rfl)
    obtain ⟨c0', -⟩ := hL.cells
    have hl := hL.look hin
    obtain ⟨k0, k1, f0, f1⟩ := (hL.fil _ hin).cells
    have hfb := hL.hi _ (hL.Sfb _ hin)
    have hdat := (hL.fil _ hin).dat
    have hne : ∀ k, (vv1 nm).ownBlock = some k → k ≠ fb1 nm := fun k hk => hL.vv_fb hin hin hk
    have hrow := (hL.fil _ hin).row
    have hN1 : Byts wc ad data := hv.gr.byts hN hap
    have hgrow := fun v' W1 ho hg ha => hL.grow hin (data := data) (by simpa using hz) hN.1 (v' := v') (W1 := W1) ho hg ha
    rw [upd_ins hg] at hgrow
    have hlo1 : lo ≤ wc.heap.size := Nat.le_trans hlo hv.gr.size
    replace hgrow := Hid.mk hgrow
    replace hv := Hid.mk hv
    rw [hs.out] at hl
    simp only [List.length_nil, Nat.zero_add, List.nil_append] at hgrow
    clear hL hin hg pA pB hc hh c0
    obtain ⟨v, hv1⟩ : ∃ v, vv1 nm = v := ⟨_, rfl⟩
    obtain ⟨b, hb1⟩ : ∃ b, fb1 nm = b := ⟨_, rfl⟩
    simp only [hv1, hb1] at hgrow hdat k0 k1 f0 f1 hl hfb hne hrow
    have tok : True := trivial
    clear hv1 hb1
    go_wp2_with (at_builtin; go_loud (refine wpList_layN _ rfl _ _ rfl lo hlo1 v [] rfl hdat ad cap data rfl hcap hN1 (by simp only [List.length_nil]; omega) ?_); have _u := tok; clear tok; intro v1 w1 ho1 hg1 ha1; simp only [List.length_nil, Nat.zero_add, List.nil_append] at ho1; obtain ⟨p1, cc1, rfl⟩ := own_lenB ho1; have r1 := (hg1.block b hfb (fun e => hne _ e.symm rfl)).trans hrow; have d0 := cell_of_row _ _ 0 _ _ _ r1; have e0 := frozen_of_row w1 b 0 _ _ r1; simp only [List.getElem?_toArray, List.getElem?_cons_zero] at d0)
    go_end0
    obtain ⟨S', q1, q2⟩ := hgrow.out _ w1 ho1 hg1 ha1
    exact ⟨rfl, S', q1, Dv.trans hv.out q2⟩
end Go.Proofs.YtakcdgeanbpllaaGreatDoor.DJ
